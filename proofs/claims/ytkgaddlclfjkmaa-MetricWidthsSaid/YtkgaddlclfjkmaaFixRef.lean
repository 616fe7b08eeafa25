/-
  What the document's own answers of layer 1 (the reference) are: May, told, Int, Add, Sub, Round, Mul, Div.
-/
import Derived.Test.YtkgaddlclfjkmaaFixWalks
import Derived.Test.YtkgaddlclfjkmaaFixRefMath
namespace Go.Proofs.Ytkgaddlclfjkmaa
open Go.RowKit

set_option maxHeartbeats 400000 in
theorem RMay_any (x : Int) (w : World) :
    Calls Try.prog 39 #[.int .i64 x] w fun e w' => e = .returned (.bool (Fx.saneB x)) ∧ w = w' := by
  by_cases h1 : -2147483648 ≤ x
  · by_cases h2 : x ≤ 2147483648
    · have HS := Lib.hid (Fx.sane_iff.2 ⟨h1, h2⟩)
      go_enter Try.func39, Try.ntmps39
      go_wp2
      go_ret
      exact ⟨ret_bool HS.out.symm, rfl⟩
    · have HS := Lib.hid (Fx.sane_not.2 (fun k => h2 k.2))
      go_enter Try.func39, Try.ntmps39
      go_wp2
      go_ret
      exact ⟨ret_bool HS.out.symm, rfl⟩
  · have HS := Lib.hid (Fx.sane_not.2 (fun k => h1 k.1))
    go_enter Try.func39, Try.ntmps39
    go_wp2
    go_ret
    exact ⟨ret_bool HS.out.symm, rfl⟩

set_option maxHeartbeats 400000 in
theorem Rtold_any (x : Int) (w : World) :
    Calls Try.prog 40 #[.int .i64 x] w fun e w' => e = .returned (.tuple #[.int .i64 (Fx.chkV x), .int .i64 (Fx.chkE x)]) ∧ w = w' := by
  cases h : Fx.saneB x
  · have HV := Lib.hid (show Fx.chkV x = 0 from if_neg (by rw [h]; simp))
    have HE := Lib.hid (show Fx.chkE x = 2 from if_neg (by rw [h]; simp))
    go_enter Try.func40, Try.ntmps40
    go_wp2_with (go_at_call 39; refine (RMay_any _ _).mono ?_; rintro e w' ⟨rfl, rfl⟩)
    go_ret2
    exact ⟨ret_ints HV.out.symm HE.out.symm, rfl⟩
  · have HV := Lib.hid (show Fx.chkV x = x from if_pos h)
    have HE := Lib.hid (show Fx.chkE x = 0 from if_pos h)
    go_enter Try.func40, Try.ntmps40
    go_wp2_with (go_at_call 39; refine (RMay_any _ _).mono ?_; rintro e w' ⟨rfl, rfl⟩)
    go_ret2
    exact ⟨ret_ints HV.out.symm HE.out.symm, rfl⟩

set_option maxHeartbeats 400000 in
theorem RRound_pos (n d : Int) (w : World) (hn : 0 ≤ n) (hn' : n ≤ 4611686018427387904) (hd : 1 ≤ d) (hd' : d ≤ 2147483648) :
    Calls Try.prog 41 #[.int .i64 n, .int .i64 d] w fun e w' => e = .returned (.int .i64 (Fx.rnd n d)) ∧ w = w' := by
  obtain ⟨q0, q1, r0, r1⟩ := Fx.ediv_bd hn hd
  by_cases h : d ≤ 2 * (n % d)
  · have HR := Lib.hid (Fx.rnd_up hn hd h)
    go_enter Try.func41, Try.ntmps41
    go_wp2_with fail
    go_ret
    exact ⟨ret_int HR.out.symm, rfl⟩
  · have HR := Lib.hid (Fx.rnd_down hn hd (by omega))
    go_enter Try.func41, Try.ntmps41
    go_wp2_with fail
    go_ret
    exact ⟨ret_int HR.out.symm, rfl⟩

set_option maxHeartbeats 400000 in
theorem RRound_neg (n d : Int) (w : World) (hn : 0 < n) (hn' : n ≤ 4611686018427387904) (hd : 1 ≤ d) (hd' : d ≤ 2147483648) :
    Calls Try.prog 41 #[.int .i64 (-n), .int .i64 d] w fun e w' => e = .returned (.int .i64 (Fx.rnd (-n) d)) ∧ w = w' := by
  have HR := Lib.hid (Fx.rnd_neg n d (by omega))
  obtain ⟨b0, b1⟩ := Fx.rnd_bd (n := n) (d := d)
  have hm := Fx.mag_le (x := n) (b := 4611686018427387904) (by omega) hn'
  go_enter Try.func41, Try.ntmps41
  go_wp2_with (go_at_call 41; refine (RRound_pos _ _ _ (by omega) (by omega) (by omega) (by omega)).mono ?_; rintro e w' ⟨rfl, rfl⟩)
  go_ret
  exact ⟨ret_int HR.out.symm, rfl⟩

theorem RRound_any (n d : Int) (w : World) (hn : -4611686018427387904 ≤ n) (hn' : n ≤ 4611686018427387904) (hd : 1 ≤ d) (hd' : d ≤ 2147483648) :
    Calls Try.prog 41 #[.int .i64 n, .int .i64 d] w fun e w' => e = .returned (.int .i64 (Fx.rnd n d)) ∧ w = w' := by
  by_cases h : n < 0
  · have := RRound_neg (-n) d w (by omega) (by omega) hd hd'
    rwa [Int.neg_neg] at this
  · exact RRound_pos n d w (by omega) hn' hd hd'

set_option maxHeartbeats 400000 in
theorem RMul_any (a b : Int) (w : World) :
    Calls Try.prog 23 #[.int .i64 a, .int .i64 b] w fun e w' => e = .returned (.tuple #[.int .i64 (Fx.mulV a b), .int .i64 (Fx.mulE a b)]) ∧ w = w' := by
  by_cases h : Fx.saneB a = true ∧ Fx.saneB b = true
  · have HV := Lib.hid (show Fx.mulV a b = Fx.chkV (Fx.rnd (a * b) 1000) from if_pos h)
    have HE := Lib.hid (show Fx.mulE a b = Fx.chkE (Fx.rnd (a * b) 1000) from if_pos h)
    obtain ⟨ha, hb⟩ := h
    obtain ⟨m0, m1⟩ := Fx.mul_bd ha hb
    go_enter Try.func23, Try.ntmps23
    go_wp2_with (first | (go_at_call 39; refine (RMay_any _ _).mono ?_; rintro e w' ⟨rfl, rfl⟩) | (go_at_call 40; refine (Rtold_any _ _).mono ?_; rintro e w' ⟨rfl, rfl⟩) | (go_at_call 41; refine (RRound_any _ _ _ (by omega) (by omega) (by omega) (by omega)).mono ?_; rintro e w' ⟨rfl, rfl⟩))
    go_ret2
    exact ⟨ret_ints HV.out.symm HE.out.symm, rfl⟩
  · have HV := Lib.hid (show Fx.mulV a b = 0 from if_neg h)
    have HE := Lib.hid (show Fx.mulE a b = 2 from if_neg h)
    cases ha : Fx.saneB a
    · clear h
      go_enter Try.func23, Try.ntmps23
      go_wp2_with (go_at_call 39; refine (RMay_any _ _).mono ?_; rintro e w' ⟨rfl, rfl⟩)
      go_ret2
      exact ⟨ret_ints HV.out.symm HE.out.symm, rfl⟩
    · have hb : Fx.saneB b = false := by
        cases hb : Fx.saneB b
        · rfl
        · exact absurd ⟨ha, hb⟩ h
      clear h
      go_enter Try.func23, Try.ntmps23
      go_wp2_with (go_at_call 39; refine (RMay_any _ _).mono ?_; rintro e w' ⟨rfl, rfl⟩)
      go_ret2
      exact ⟨ret_ints HV.out.symm HE.out.symm, rfl⟩

end Go.Proofs.Ytkgaddlclfjkmaa
