/-
  The document's example of layer 2: what the laws ask first is so.
-/
import Derived.Test.YtbckjejflbfjlaaGeomPlace
import Derived.Test.YtbckjejflbfjlaaGeomEq
namespace Go.Proofs.Ytbckjejflbfjlaa
open Go.RowKit

theorem ex_place : Gm.plX (Gm.bndE 1000 0 0 1000 0 0 (min 0 10000) (min 0 20000) (max 0 10000) (max 0 20000)) (Gm.bndA 1000 0 0 1000 0 0 (min 0 10000) (min 0 20000) (max 0 10000) (max 0 20000)) (Gm.bndB 1000 0 0 1000 0 0 (min 0 10000) (min 0 20000) (max 0 10000) (max 0 20000)) (Gm.bndC 1000 0 0 1000 0 0 (min 0 10000) (min 0 20000) (max 0 10000) (max 0 20000)) (Gm.bndD 1000 0 0 1000 0 0 (min 0 10000) (min 0 20000) (max 0 10000) (max 0 20000)) 100000 100000 120000 120000 = 2000 ∧ Gm.plY (Gm.bndE 1000 0 0 1000 0 0 (min 0 10000) (min 0 20000) (max 0 10000) (max 0 20000)) (Gm.bndA 1000 0 0 1000 0 0 (min 0 10000) (min 0 20000) (max 0 10000) (max 0 20000)) (Gm.bndB 1000 0 0 1000 0 0 (min 0 10000) (min 0 20000) (max 0 10000) (max 0 20000)) (Gm.bndC 1000 0 0 1000 0 0 (min 0 10000) (min 0 20000) (max 0 10000) (max 0 20000)) (Gm.bndD 1000 0 0 1000 0 0 (min 0 10000) (min 0 20000) (max 0 10000) (max 0 20000)) 100000 100000 120000 120000 = 1000 ∧ Gm.plS (Gm.bndE 1000 0 0 1000 0 0 (min 0 10000) (min 0 20000) (max 0 10000) (max 0 20000)) (Gm.bndA 1000 0 0 1000 0 0 (min 0 10000) (min 0 20000) (max 0 10000) (max 0 20000)) (Gm.bndB 1000 0 0 1000 0 0 (min 0 10000) (min 0 20000) (max 0 10000) (max 0 20000)) (Gm.bndC 1000 0 0 1000 0 0 (min 0 10000) (min 0 20000) (max 0 10000) (max 0 20000)) (Gm.bndD 1000 0 0 1000 0 0 (min 0 10000) (min 0 20000) (max 0 10000) (max 0 20000)) 100000 100000 120000 120000 = 100000 ∧ Gm.plT (Gm.bndE 1000 0 0 1000 0 0 (min 0 10000) (min 0 20000) (max 0 10000) (max 0 20000)) (Gm.bndA 1000 0 0 1000 0 0 (min 0 10000) (min 0 20000) (max 0 10000) (max 0 20000)) (Gm.bndB 1000 0 0 1000 0 0 (min 0 10000) (min 0 20000) (max 0 10000) (max 0 20000)) (Gm.bndC 1000 0 0 1000 0 0 (min 0 10000) (min 0 20000) (max 0 10000) (max 0 20000)) (Gm.bndD 1000 0 0 1000 0 0 (min 0 10000) (min 0 20000) (max 0 10000) (max 0 20000)) 100000 100000 120000 120000 = 100000 ∧ Gm.plE (Gm.bndE 1000 0 0 1000 0 0 (min 0 10000) (min 0 20000) (max 0 10000) (max 0 20000)) (Gm.bndA 1000 0 0 1000 0 0 (min 0 10000) (min 0 20000) (max 0 10000) (max 0 20000)) (Gm.bndB 1000 0 0 1000 0 0 (min 0 10000) (min 0 20000) (max 0 10000) (max 0 20000)) (Gm.bndC 1000 0 0 1000 0 0 (min 0 10000) (min 0 20000) (max 0 10000) (max 0 20000)) (Gm.bndD 1000 0 0 1000 0 0 (min 0 10000) (min 0 20000) (max 0 10000) (max 0 20000)) 100000 100000 120000 120000 = 0 := by decide +kernel

theorem aw_place (w : World) : Calls Try.prog 17 #[.agg #[.int .i64 0, .int .i64 0, .int .i64 10000, .int .i64 20000], .agg #[.int .i64 1000, .int .i64 0, .int .i64 0, .int .i64 1000, .int .i64 0, .int .i64 0], .agg #[.int .i64 100000, .int .i64 100000, .int .i64 120000, .int .i64 120000]] w fun e w' => e = .returned (.tuple #[.agg #[.int .i64 2000, .int .i64 0, .int .i64 0, .int .i64 1000, .int .i64 100000, .int .i64 100000], .int .i64 0]) ∧ Kept w w' := by
  have h := Place_any 0 0 10000 20000 1000 0 0 1000 0 0 100000 100000 120000 120000 w
  rw [ex_place.1, ex_place.2.1, ex_place.2.2.1, ex_place.2.2.2.1, ex_place.2.2.2.2] at h
  exact h

set_option maxHeartbeats 1000000 in
theorem awake2_any (w : World) :
    Calls Try.prog 10 #[] w fun e w' => e = .returned (.bool true) ∧ Kept w w' := by
  have em := eql_mat_same 2000 0 0 1000 100000 100000
  have ix : ∀ w, (Instr.index 24 (.agg #[.int .i64 1000, .int .i64 0, .int .i64 0, .int .i64 1000, .int .i64 0, .int .i64 0]) (.int .i64 0)).run Try.prog w = .ok (.int .i64 1000) w := fun _ => by kernel_rfl
  go_enter Try.func10, Try.ntmps10
  go_wp2_with fail
  refine (Unit_any _).mono ?_
  rintro e w1 ⟨rfl, k1⟩
  go_wp2_with fail
  refine (aw_place _).mono ?_
  rintro e w2 ⟨rfl, k2⟩
  go_wp2_with fail
  refine (Unit_any _).mono ?_
  rintro e w3 ⟨rfl, k3⟩
  go_wp2_with fail
  go_ret
  exact ⟨rfl, ((k1.trans k2).allocO _).trans k3⟩

end Go.Proofs.Ytbckjejflbfjlaa
