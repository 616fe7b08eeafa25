/-
  == between matrices, and between rectangles: number by number.
-/
import Derived.Test.YtbckjejflbfjlaaKept
import Derived.ChangeKeysEq
import Derived.Laws.StructEq
namespace Go.Proofs.Ytbckjejflbfjlaa
open Go.RowKit

theorem fix_part {xs : Array Value} {o : Nat} {v : Value} (w : World) (h : xs[o]? = some v) : (part 22 xs o).run Try.prog w = .ok v w :=
  run_part_plain w (show Try.prog.plainKey 22 = true by kernel_rfl) h
theorem fix_info : ∃ i, Try.prog.info? 22 = some i := by
  cases h : Try.prog.info? 22 with
  | some i => exact ⟨i, rfl⟩
  | none => exact absurd h (by
      have : (Try.prog.info? 22).isSome = true := by kernel_rfl
      intro k; rw [k] at this; cases this)
theorem fix_cells : Try.prog.cellsOf 22 = 1 := by kernel_rfl

theorem eqItems_nil (xs ys : Array Value) (w : World) : (Op.eqItems 9999 22 1 xs ys []).run Try.prog w = .ok true w := by simp [Op.eqItems]
theorem eqItems_step {xs ys : Array Value} {i : Nat} {is : List Nat} {a b : Int} {r : Bool} (w : World) (hx : xs[i]? = some (.int .i64 a)) (hy : ys[i]? = some (.int .i64 b)) (h : (Op.eqItems 9999 22 1 xs ys is).run Try.prog w = .ok r w) :
    (Op.eqItems 9999 22 1 xs ys (i :: is)).run Try.prog w = .ok (a == b && r) w := by
  have E : (Op.equalIn 9999 22 (.int .i64 a) (.int .i64 b)).run Try.prog w = .ok (a == b) w := run_equalIn_int w 9998 _ .i64 .i64 a b Try.underlying22
  simp only [Op.eqItems, Sem.run_bind, Nat.mul_one, fix_part w hx, fix_part w hy, Result.andThen_ok, E]
  cases h' : (a == b)
  · simp
  · simpa using h

theorem eqIn_mat (a0 a1 a2 a3 a4 a5 b0 b1 b2 b3 b4 b5 : Int) (w : World) :
    (Op.equalIn 10000 24 (.agg #[.int .i64 a0, .int .i64 a1, .int .i64 a2, .int .i64 a3, .int .i64 a4, .int .i64 a5]) (.agg #[.int .i64 b0, .int .i64 b1, .int .i64 b2, .int .i64 b3, .int .i64 b4, .int .i64 b5])).run Try.prog w = .ok (a0 == b0 && (a1 == b1 && (a2 == b2 && (a3 == b3 && (a4 == b4 && (a5 == b5 && true)))))) w := by
  obtain ⟨i, hi⟩ := fix_info
  rw [run_equalIn_array w 9999 _ _ Try.underlying24 hi, fix_cells, show List.range 6 = [0, 1, 2, 3, 4, 5] from rfl]
  exact eqItems_step (i := 0) (a := a0) (b := b0) w rfl rfl (eqItems_step (i := 1) (a := a1) (b := b1) w rfl rfl (eqItems_step (i := 2) (a := a2) (b := b2) w rfl rfl (eqItems_step (i := 3) (a := a3) (b := b3) w rfl rfl (eqItems_step (i := 4) (a := a4) (b := b4) w rfl rfl (eqItems_step (i := 5) (a := a5) (b := b5) w rfl rfl (eqItems_nil _ _ _))))))
theorem eql_mat (a0 a1 a2 a3 a4 a5 b0 b1 b2 b3 b4 b5 : Int) (w : World) :
    (binOp .eql 24 (.agg #[.int .i64 a0, .int .i64 a1, .int .i64 a2, .int .i64 a3, .int .i64 a4, .int .i64 a5]) (.agg #[.int .i64 b0, .int .i64 b1, .int .i64 b2, .int .i64 b3, .int .i64 b4, .int .i64 b5])).run Try.prog w = .ok (.bool (a0 == b0 && (a1 == b1 && (a2 == b2 && (a3 == b3 && (a4 == b4 && (a5 == b5 && true))))))) w := by
  rw [run_eql_struct, eqIn_mat]; rfl
theorem eql_mat_same (a0 a1 a2 a3 a4 a5 : Int) (w : World) :
    (binOp .eql 24 (.agg #[.int .i64 a0, .int .i64 a1, .int .i64 a2, .int .i64 a3, .int .i64 a4, .int .i64 a5]) (.agg #[.int .i64 a0, .int .i64 a1, .int .i64 a2, .int .i64 a3, .int .i64 a4, .int .i64 a5])).run Try.prog w = .ok (.bool true) w := by
  rw [eql_mat]; simp

end Go.Proofs.Ytbckjejflbfjlaa
