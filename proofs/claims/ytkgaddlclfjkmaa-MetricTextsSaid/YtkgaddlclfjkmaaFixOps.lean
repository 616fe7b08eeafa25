/-
  What package fix's Add, Sub, Mul, Div and Int answer, at all numbers.
-/
import Derived.Test.YtkgaddlclfjkmaaFixWalks
namespace Go.Proofs.Ytkgaddlclfjkmaa
open Go.RowKit

set_option maxHeartbeats 400000 in
theorem Mul_any (a b : Int) (w : World) :
    Calls Try.prog 22 #[.int .i64 a, .int .i64 b] w fun e w' => e = .returned (.tuple #[.int .i64 (Fx.mulV a b), .int .i64 (Fx.mulE a b)]) ∧ Kept w w' := by
  by_cases h : Fx.saneB a = true ∧ Fx.saneB b = true
  · have HV := Lib.hid (show Fx.mulV a b = Fx.chkV (Fx.rnd (a * b) 1000) from if_pos h)
    have HE := Lib.hid (show Fx.mulE a b = Fx.chkE (Fx.rnd (a * b) 1000) from if_pos h)
    have hs : (Fx.saneB a && Fx.saneB b) = true := by simp [h]
    obtain ⟨ha, hb⟩ := h
    obtain ⟨m0, m1⟩ := Fx.mul_bd ha hb
    have hg1 := Kept.alloc (Kept.refl w) #[.int .i64 a, .int .i64 b] 25
    have HG := Lib.hid hg1
    clear hg1
    go_enter Try.func22, Try.ntmps22
    go_wp2_with (first | (go_at_call 36; refine (sane_new2 a b _).mono ?_; rintro e w' ⟨rfl, rfl⟩) | (go_at_call 38; refine (rounded_any _ _ _ (by omega) (by omega) (by omega) (by omega) (by omega)).mono ?_; rintro e w' ⟨rfl, k, rfl⟩) | (go_at_call 37; refine (checked_any _ _).mono ?_; rintro e w' ⟨rfl, hg⟩))
    go_ret2
    exact ⟨ret_ints HV.out.symm HE.out.symm, Kept.trans (Kept.drewN HG.out k) hg⟩
  · have HV := Lib.hid (show Fx.mulV a b = 0 from if_neg h)
    have HE := Lib.hid (show Fx.mulE a b = 2 from if_neg h)
    have hs : (Fx.saneB a && Fx.saneB b) = false := by simpa using h
    clear h
    go_enter Try.func22, Try.ntmps22
    go_wp2_with (go_at_call 36; refine (sane_new2 a b _).mono ?_; rintro e w' ⟨rfl, rfl⟩)
    go_ret2
    exact ⟨ret_ints HV.out.symm HE.out.symm, (Kept.refl _).alloc _ _⟩

end Go.Proofs.Ytkgaddlclfjkmaa
