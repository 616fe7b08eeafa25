/-
  == between rectangles.
-/
import Derived.Test.YtbckjejflbfjlaaGeomEq
namespace Go.Proofs.Ytbckjejflbfjlaa
open Go.RowKit

theorem rect_stood : Try.prog.stoodInHeld 26 = false := by kernel_rfl
theorem eqF_nil (xs ys : Array Value) (w : World) : (Op.eqFields 9999 xs ys []).run Try.prog w = .ok true w := by simp [Op.eqFields]
theorem eqF_step {xs ys : Array Value} {f : Field} {fs : List Field} {a b : Int} {r : Bool} (w : World) (hn : f.name ≠ "_") (ht : f.type = 22) (hx : xs[f.offset]? = some (.int .i64 a)) (hy : ys[f.offset]? = some (.int .i64 b)) (h : (Op.eqFields 9999 xs ys fs).run Try.prog w = .ok r w) :
    (Op.eqFields 9999 xs ys (f :: fs)).run Try.prog w = .ok (a == b && r) w := by
  have E : (Op.equalIn 9999 22 (.int .i64 a) (.int .i64 b)).run Try.prog w = .ok (a == b) w := run_equalIn_int w 9998 _ .i64 .i64 a b Try.underlying22
  simp only [Op.eqFields, Sem.run_bind, Sem.run_ite, if_pos hn, ht, fix_part w hx, fix_part w hy, Result.andThen_ok, E]
  cases h' : (a == b)
  · simp
  · simpa using h
theorem eqIn_rect (a b c d p q r s : Int) (w : World) :
    (Op.equalIn 10000 26 (.agg #[.int .i64 a, .int .i64 b, .int .i64 c, .int .i64 d]) (.agg #[.int .i64 p, .int .i64 q, .int .i64 r, .int .i64 s])).run Try.prog w = .ok (a == p && (b == q && (c == r && (d == s && true)))) w := by
  have hu := Try.underlying26
  have hf := hu
  rw [run_equalIn_struct w 9999 _ _ _ (by unfold Program.fieldsOf; rw [hu]) rect_stood]
  unfold Program.fieldsOf
  rw [hu]
  exact eqF_step w (by decide) rfl rfl rfl (eqF_step w (by decide) rfl rfl rfl (eqF_step w (by decide) rfl rfl rfl (eqF_step w (by decide) rfl rfl rfl (eqF_nil _ _ _))))
theorem eql_rect (a b c d p q r s : Int) (w : World) :
    (binOp .eql 26 (.agg #[.int .i64 a, .int .i64 b, .int .i64 c, .int .i64 d]) (.agg #[.int .i64 p, .int .i64 q, .int .i64 r, .int .i64 s])).run Try.prog w = .ok (.bool (a == p && (b == q && (c == r && (d == s && true))))) w := by
  rw [run_eql_struct, eqIn_rect]; rfl
theorem neq_rect (a b c d p q r s : Int) (w : World) :
    (binOp .neq 26 (.agg #[.int .i64 a, .int .i64 b, .int .i64 c, .int .i64 d]) (.agg #[.int .i64 p, .int .i64 q, .int .i64 r, .int .i64 s])).run Try.prog w = .ok (.bool !(a == p && (b == q && (c == r && (d == s && true))))) w := by
  rw [run_neq_struct, eqIn_rect]; rfl
theorem eql_rect_same (a b c d : Int) (w : World) :
    (binOp .eql 26 (.agg #[.int .i64 a, .int .i64 b, .int .i64 c, .int .i64 d]) (.agg #[.int .i64 a, .int .i64 b, .int .i64 c, .int .i64 d])).run Try.prog w = .ok (.bool true) w := by
  rw [eql_rect]; simp
theorem neq_rect_same (a b c d : Int) (w : World) :
    (binOp .neq 26 (.agg #[.int .i64 a, .int .i64 b, .int .i64 c, .int .i64 d]) (.agg #[.int .i64 a, .int .i64 b, .int .i64 c, .int .i64 d])).run Try.prog w = .ok (.bool false) w := by
  rw [neq_rect]; simp

end Go.Proofs.Ytbckjejflbfjlaa
