/-
  The document's examples: what the laws ask first is so, in every world whose library variables are as they are laid.
-/
import Derived.Test.YtikkpfaeenekbaaDoorFixParse
import Derived.Test.YtikkpfaeenekbaaDoorFixPrint
namespace Go.Proofs.YtikkpfaeenekbaaDoor
open Go.RowKit

theorem ex_parse : Fx.parseV [49, 46, 50, 51, 52, 53] = 1235 ∧ Fx.parseE [49, 46, 50, 51, 52, 53] = 0 := by decide +kernel
theorem ex_mul : Fx.mulV 1500 1500 = 2250 ∧ Fx.mulE 1500 1500 = 0 := by decide +kernel
theorem ex_div : Fx.divV 1000 3000 = 333 ∧ Fx.divE 1000 3000 = 0 := by decide +kernel
theorem ex_print : Fx.printL (-500) = [45, 48, 46, 53] := by decide +kernel
theorem ex_sane : Fx.saneB 1 = true ∧ Fx.saneB 1099511627776 = false := by decide +kernel

theorem aw_parse (w : World) (hf : Fine w) : Calls Tryd.prog 11 #[.string ⟨#[49, 46, 50, 51, 52, 53]⟩] w fun e w' => e = .returned (.tuple #[.int .i64 1235, .int .i64 0]) ∧ Kept w w' := by
  have h := Parse_any [49, 46, 50, 51, 52, 53] w (by decide) hf
  rw [ex_parse.1, ex_parse.2] at h
  exact h
theorem aw_mul (w : World) : Calls Tryd.prog 23 #[.int .i64 1500, .int .i64 1500] w fun e w' => e = .returned (.tuple #[.int .i64 2250, .int .i64 0]) ∧ Kept w w' := by
  have h := Mul_any 1500 1500 w
  rw [ex_mul.1, ex_mul.2] at h
  exact h
theorem aw_div (w : World) : Calls Tryd.prog 25 #[.int .i64 1000, .int .i64 3000] w fun e w' => e = .returned (.tuple #[.int .i64 333, .int .i64 0]) ∧ Kept w w' := by
  have h := Div_any 1000 3000 w
  rw [ex_div.1, ex_div.2] at h
  exact h
theorem aw_print (w : World) (hf : Fine w) : Calls Tryd.prog 15 #[.int .i64 (-500)] w fun e w' => e = .returned (.string ⟨#[45, 48, 46, 53]⟩) ∧ Kept w w' := by
  have h := Print_any (-500) w hf
  rw [ex_print] at h
  exact h
theorem aw_sane (x : Int) (w : World) :
    Calls Tryd.prog 17 #[.slice (some ⟨w.heap.size, 0, none⟩) 1 1] (w.alloc (.cells #[.int .i64 x] 22)) fun e w' => e = .returned (.bool (Fx.saneB x)) ∧ Kept w w' :=
  (sane_new1 x w).mono fun _ _ ⟨he, hw⟩ => ⟨he, hw ▸ (Kept.refl _).alloc _ _⟩

set_option maxHeartbeats 1000000 in
theorem awake_any (w : World) (hf : Fine w) :
    Calls Tryd.prog 10 #[] w fun e w' => e = .returned (.bool true) ∧ Kept w w' := by
  have s1 := ex_sane.1
  have s2 := ex_sane.2
  go_enter Tryd.func10, Tryd.ntmps10
  go_wp2_with fail
  refine (aw_parse _ hf).mono ?_
  rintro e w1 ⟨rfl, k1⟩
  go_wp2_with fail
  refine (aw_mul _).mono ?_
  rintro e w2 ⟨rfl, k2⟩
  go_wp2_with fail
  refine (aw_div _).mono ?_
  rintro e w3 ⟨rfl, k3⟩
  go_wp2_with fail
  refine (aw_print _ (((hf.kept k1).kept k2).kept k3)).mono ?_
  rintro e w4 ⟨rfl, k4⟩
  go_wp2_with fail
  refine (aw_sane 1 _).mono ?_
  rintro e w5 ⟨rfl, k5⟩
  go_wp2_with fail
  refine (aw_sane 1099511627776 _).mono ?_
  rintro e w6 ⟨rfl, k6⟩
  go_wp2_with fail
  go_ret
  exact ⟨rfl, ((((k1.trans k2).trans k3).trans k4).trans k5).trans k6⟩

end Go.Proofs.YtikkpfaeenekbaaDoor
