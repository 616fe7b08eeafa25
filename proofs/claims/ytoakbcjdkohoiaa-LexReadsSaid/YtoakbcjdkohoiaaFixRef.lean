/-
  What the document's own answers of layer 1 (the reference) are: May, told, Int, Add, Sub, Round, Mul, Div.
-/
import Derived.Test.YtoakbcjdkohoiaaFixWalks
import Derived.Test.YtoakbcjdkohoiaaFixRefMath
namespace Go.Proofs.Ytoakbcjdkohoiaa
open Go.RowKit

set_option maxHeartbeats 400000 in
theorem RMay_any (x : Int) (w : World) :
    Calls Try.prog 95 #[.int .i64 x] w fun e w' => e = .returned (.bool (Fx.saneB x)) ∧ w = w' := by
  by_cases h1 : -2147483648 ≤ x
  · by_cases h2 : x ≤ 2147483648
    · have HS := Lib.hid (Fx.sane_iff.2 ⟨h1, h2⟩)
      go_enter Try.func95, Try.ntmps95
      go_wp2
      go_ret
      exact ⟨ret_bool HS.out.symm, rfl⟩
    · have HS := Lib.hid (Fx.sane_not.2 (fun k => h2 k.2))
      go_enter Try.func95, Try.ntmps95
      go_wp2
      go_ret
      exact ⟨ret_bool HS.out.symm, rfl⟩
  · have HS := Lib.hid (Fx.sane_not.2 (fun k => h1 k.1))
    go_enter Try.func95, Try.ntmps95
    go_wp2
    go_ret
    exact ⟨ret_bool HS.out.symm, rfl⟩

set_option maxHeartbeats 400000 in
theorem Rtold_any (x : Int) (w : World) :
    Calls Try.prog 79 #[.int .i64 x] w fun e w' => e = .returned (.tuple #[.int .i64 (Fx.chkV x), .int .i64 (Fx.chkE x)]) ∧ w = w' := by
  cases h : Fx.saneB x
  · have HV := Lib.hid (show Fx.chkV x = 0 from if_neg (by rw [h]; simp))
    have HE := Lib.hid (show Fx.chkE x = 2 from if_neg (by rw [h]; simp))
    go_enter Try.func79, Try.ntmps79
    go_wp2_with (go_at_call 95; refine (RMay_any _ _).mono ?_; rintro e w' ⟨rfl, rfl⟩)
    go_ret2
    exact ⟨ret_ints HV.out.symm HE.out.symm, rfl⟩
  · have HV := Lib.hid (show Fx.chkV x = x from if_pos h)
    have HE := Lib.hid (show Fx.chkE x = 0 from if_pos h)
    go_enter Try.func79, Try.ntmps79
    go_wp2_with (go_at_call 95; refine (RMay_any _ _).mono ?_; rintro e w' ⟨rfl, rfl⟩)
    go_ret2
    exact ⟨ret_ints HV.out.symm HE.out.symm, rfl⟩

end Go.Proofs.Ytoakbcjdkohoiaa
