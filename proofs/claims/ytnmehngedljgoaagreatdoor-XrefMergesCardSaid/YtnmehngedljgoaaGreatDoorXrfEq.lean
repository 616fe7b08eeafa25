/-
  == between entries.
-/
import Derived.Test.YtnmehngedljgoaaGreatDoorXrfM
import Derived.Test.YtnmehngedljgoaaGreatDoorXBase
import Derived.ChangeKeysEq
import Derived.Laws.StructEq
namespace Go.Proofs.YtnmehngedljgoaaGreatDoor
open Go.RowKit Rx

theorem xint_part {xs : Array Value} {o : Nat} {v : Value} (w : World) (h : xs[o]? = some v) : (part 3 xs o).run Tryz.prog w = .ok v w :=
  run_part_plain w (show Tryz.prog.plainKey 3 = true by kernel_rfl) h
theorem xbool_part {xs : Array Value} {o : Nat} {v : Value} (w : World) (h : xs[o]? = some v) : (part 4 xs o).run Tryz.prog w = .ok v w :=
  run_part_plain w (show Tryz.prog.plainKey 4 = true by kernel_rfl) h
theorem xent_stood : Tryz.prog.stoodInHeld 47 = false := by kernel_rfl
theorem xeqF_nil (xs ys : Array Value) (w : World) : (Op.eqFields 9999 xs ys []).run Tryz.prog w = .ok true w := by simp [Op.eqFields]
theorem xeqF_step {xs ys : Array Value} {f : Field} {fs : List Field} {a b : Int} {r : Bool} (w : World) (hn : f.name ≠ "_") (ht : f.type = 3) (hx : xs[f.offset]? = some (.int .i64 a)) (hy : ys[f.offset]? = some (.int .i64 b)) (h : (Op.eqFields 9999 xs ys fs).run Tryz.prog w = .ok r w) :
    (Op.eqFields 9999 xs ys (f :: fs)).run Tryz.prog w = .ok (a == b && r) w := by
  have E : (Op.equalIn 9999 3 (.int .i64 a) (.int .i64 b)).run Tryz.prog w = .ok (a == b) w := run_equalIn_int w 9998 _ .i64 .i64 a b Tryz.underlying3
  simp only [Op.eqFields, Sem.run_bind, Sem.run_ite, if_pos hn, ht, xint_part w hx, xint_part w hy, Result.andThen_ok, E]
  cases h' : (a == b)
  · simp
  · simpa using h
theorem xeqF_bool {xs ys : Array Value} {f : Field} {fs : List Field} {a b : Bool} {r : Bool} (w : World) (hn : f.name ≠ "_") (ht : f.type = 4) (hx : xs[f.offset]? = some (.bool a)) (hy : ys[f.offset]? = some (.bool b)) (h : (Op.eqFields 9999 xs ys fs).run Tryz.prog w = .ok r w) :
    (Op.eqFields 9999 xs ys (f :: fs)).run Tryz.prog w = .ok (a == b && r) w := by
  have E : (Op.equalIn 9999 4 (.bool a) (.bool b)).run Tryz.prog w = .ok (a == b) w := run_equalIn_bool' w 9998 _ a b Tryz.underlying4
  simp only [Op.eqFields, Sem.run_bind, Sem.run_ite, if_pos hn, ht, xbool_part w hx, xbool_part w hy, Result.andThen_ok, E]
  cases h' : (a == b)
  · simp
  · simpa using h
theorem eqIn_xent (a b c p q r : Int) (d s : Bool) (w : World) :
    (Op.equalIn 10000 47 (.agg #[.int .i64 a, .int .i64 b, .int .i64 c, .bool d]) (.agg #[.int .i64 p, .int .i64 q, .int .i64 r, .bool s])).run Tryz.prog w = .ok (a == p && (b == q && (c == r && (d == s && true)))) w := by
  have hu := Tryz.underlying47
  rw [run_equalIn_struct w 9999 _ _ _ (by unfold Program.fieldsOf; rw [hu]) xent_stood]
  unfold Program.fieldsOf
  rw [hu]
  exact xeqF_step w (by decide) rfl rfl rfl (xeqF_step w (by decide) rfl rfl rfl (xeqF_step w (by decide) rfl rfl rfl (xeqF_bool w (by decide) rfl rfl rfl (xeqF_nil _ _ _))))
theorem eql_xent (y t : Xent) (w : World) :
    (binOp .eql 47 (.agg #[.int .i64 y.n, .int .i64 y.off, .int .i64 y.gen, .bool y.used]) (.agg #[.int .i64 t.n, .int .i64 t.off, .int .i64 t.gen, .bool t.used])).run Tryz.prog w = .ok (.bool (decide (t = y))) w := by
  rw [run_eql_struct, eqIn_xent]
  obtain ⟨a, b, c, d⟩ := y
  obtain ⟨p, q, r, s⟩ := t
  have : (a == p && (b == q && (c == r && (d == s && true)))) = decide ((⟨p, q, r, s⟩ : Xent) = ⟨a, b, c, d⟩) := by
    rw [Bool.eq_iff_iff]
    simp only [Bool.and_eq_true, beq_iff_eq, decide_eq_true_eq, Xent.mk.injEq, and_true]
    constructor
    · rintro ⟨rfl, rfl, rfl, rfl⟩; exact ⟨rfl, rfl, rfl, rfl⟩
    · rintro ⟨rfl, rfl, rfl, rfl⟩; exact ⟨rfl, rfl, rfl, rfl⟩
  simp only [Result.andThen_ok]
  rw [this]

end Go.Proofs.YtnmehngedljgoaaGreatDoor
