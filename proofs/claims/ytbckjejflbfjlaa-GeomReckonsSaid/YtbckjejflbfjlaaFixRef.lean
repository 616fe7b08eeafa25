/-
  What the document's own answers of layer 1 (the reference) are: May, told, Int, Add, Sub, Round, Mul, Div.
-/
import Derived.Test.YtbckjejflbfjlaaFixWalks
import Derived.Test.YtbckjejflbfjlaaFixRefMath
namespace Go.Proofs.Ytbckjejflbfjlaa
open Go.RowKit

set_option maxHeartbeats 400000 in
theorem RMay_any (x : Int) (w : World) :
    Calls Try.prog 30 #[.int .i64 x] w fun e w' => e = .returned (.bool (Fx.saneB x)) ∧ w = w' := by
  by_cases h1 : -2147483648 ≤ x
  · by_cases h2 : x ≤ 2147483648
    · have HS := Lib.hid (Fx.sane_iff.2 ⟨h1, h2⟩)
      go_enter Try.func30, Try.ntmps30
      go_wp2
      go_ret
      exact ⟨ret_bool HS.out.symm, rfl⟩
    · have HS := Lib.hid (Fx.sane_not.2 (fun k => h2 k.2))
      go_enter Try.func30, Try.ntmps30
      go_wp2
      go_ret
      exact ⟨ret_bool HS.out.symm, rfl⟩
  · have HS := Lib.hid (Fx.sane_not.2 (fun k => h1 k.1))
    go_enter Try.func30, Try.ntmps30
    go_wp2
    go_ret
    exact ⟨ret_bool HS.out.symm, rfl⟩

set_option maxHeartbeats 400000 in
theorem Rtold_any (x : Int) (w : World) :
    Calls Try.prog 51 #[.int .i64 x] w fun e w' => e = .returned (.tuple #[.int .i64 (Fx.chkV x), .int .i64 (Fx.chkE x)]) ∧ w = w' := by
  cases h : Fx.saneB x
  · have HV := Lib.hid (show Fx.chkV x = 0 from if_neg (by rw [h]; simp))
    have HE := Lib.hid (show Fx.chkE x = 2 from if_neg (by rw [h]; simp))
    go_enter Try.func51, Try.ntmps51
    go_wp2_with (go_at_call 30; refine (RMay_any _ _).mono ?_; rintro e w' ⟨rfl, rfl⟩)
    go_ret2
    exact ⟨ret_ints HV.out.symm HE.out.symm, rfl⟩
  · have HV := Lib.hid (show Fx.chkV x = x from if_pos h)
    have HE := Lib.hid (show Fx.chkE x = 0 from if_pos h)
    go_enter Try.func51, Try.ntmps51
    go_wp2_with (go_at_call 30; refine (RMay_any _ _).mono ?_; rintro e w' ⟨rfl, rfl⟩)
    go_ret2
    exact ⟨ret_ints HV.out.symm HE.out.symm, rfl⟩

set_option maxHeartbeats 400000 in
theorem RRound_pos (n d : Int) (w : World) (hn : 0 ≤ n) (hn' : n ≤ 4611686018427387904) (hd : 1 ≤ d) (hd' : d ≤ 2147483648) :
    Calls Try.prog 52 #[.int .i64 n, .int .i64 d] w fun e w' => e = .returned (.int .i64 (Fx.rnd n d)) ∧ w = w' := by
  obtain ⟨q0, q1, r0, r1⟩ := Fx.ediv_bd hn hd
  by_cases h : d ≤ 2 * (n % d)
  · have HR := Lib.hid (Fx.rnd_up hn hd h)
    go_enter Try.func52, Try.ntmps52
    go_wp2_with fail
    go_ret
    exact ⟨ret_int HR.out.symm, rfl⟩
  · have HR := Lib.hid (Fx.rnd_down hn hd (by omega))
    go_enter Try.func52, Try.ntmps52
    go_wp2_with fail
    go_ret
    exact ⟨ret_int HR.out.symm, rfl⟩

set_option maxHeartbeats 400000 in
theorem RRound_neg (n d : Int) (w : World) (hn : 0 < n) (hn' : n ≤ 4611686018427387904) (hd : 1 ≤ d) (hd' : d ≤ 2147483648) :
    Calls Try.prog 52 #[.int .i64 (-n), .int .i64 d] w fun e w' => e = .returned (.int .i64 (Fx.rnd (-n) d)) ∧ w = w' := by
  have HR := Lib.hid (Fx.rnd_neg n d (by omega))
  obtain ⟨b0, b1⟩ := Fx.rnd_bd (n := n) (d := d)
  have hm := Fx.mag_le (x := n) (b := 4611686018427387904) (by omega) hn'
  go_enter Try.func52, Try.ntmps52
  go_wp2_with (go_at_call 52; refine (RRound_pos _ _ _ (by omega) (by omega) (by omega) (by omega)).mono ?_; rintro e w' ⟨rfl, rfl⟩)
  go_ret
  exact ⟨ret_int HR.out.symm, rfl⟩

theorem RRound_any (n d : Int) (w : World) (hn : -4611686018427387904 ≤ n) (hn' : n ≤ 4611686018427387904) (hd : 1 ≤ d) (hd' : d ≤ 2147483648) :
    Calls Try.prog 52 #[.int .i64 n, .int .i64 d] w fun e w' => e = .returned (.int .i64 (Fx.rnd n d)) ∧ w = w' := by
  by_cases h : n < 0
  · have := RRound_neg (-n) d w (by omega) (by omega) hd hd'
    rwa [Int.neg_neg] at this
  · exact RRound_pos n d w (by omega) hn' hd hd'

set_option maxHeartbeats 400000 in
theorem RAdd_any (a b : Int) (w : World) :
    Calls Try.prog 48 #[.int .i64 a, .int .i64 b] w fun e w' => e = .returned (.tuple #[.int .i64 (Fx.addV a b), .int .i64 (Fx.addE a b)]) ∧ w = w' := by
  by_cases h : Fx.saneB a = true ∧ Fx.saneB b = true
  · have HV := Lib.hid (show Fx.addV a b = Fx.chkV (a + b) from if_pos h)
    have HE := Lib.hid (show Fx.addE a b = Fx.chkE (a + b) from if_pos h)
    obtain ⟨ha, hb⟩ := h
    have a0 := Fx.sane_lo ha
    have a1 := Fx.sane_hi ha
    have b0 := Fx.sane_lo hb
    have b1 := Fx.sane_hi hb
    go_enter Try.func48, Try.ntmps48
    go_wp2_with (first | (go_at_call 30; refine (RMay_any _ _).mono ?_; rintro e w' ⟨rfl, rfl⟩) | (go_at_call 51; refine (Rtold_any _ _).mono ?_; rintro e w' ⟨rfl, rfl⟩))
    go_ret2
    exact ⟨ret_ints HV.out.symm HE.out.symm, rfl⟩
  · have HV := Lib.hid (show Fx.addV a b = 0 from if_neg h)
    have HE := Lib.hid (show Fx.addE a b = 2 from if_neg h)
    cases ha : Fx.saneB a
    · clear h
      go_enter Try.func48, Try.ntmps48
      go_wp2_with (go_at_call 30; refine (RMay_any _ _).mono ?_; rintro e w' ⟨rfl, rfl⟩)
      go_ret2
      exact ⟨ret_ints HV.out.symm HE.out.symm, rfl⟩
    · have hb : Fx.saneB b = false := by
        cases hb : Fx.saneB b
        · rfl
        · exact absurd ⟨ha, hb⟩ h
      clear h
      go_enter Try.func48, Try.ntmps48
      go_wp2_with (go_at_call 30; refine (RMay_any _ _).mono ?_; rintro e w' ⟨rfl, rfl⟩)
      go_ret2
      exact ⟨ret_ints HV.out.symm HE.out.symm, rfl⟩

set_option maxHeartbeats 400000 in
theorem RSub_any (a b : Int) (w : World) :
    Calls Try.prog 43 #[.int .i64 a, .int .i64 b] w fun e w' => e = .returned (.tuple #[.int .i64 (Fx.subV a b), .int .i64 (Fx.subE a b)]) ∧ w = w' := by
  by_cases h : Fx.saneB a = true ∧ Fx.saneB b = true
  · have HV := Lib.hid (show Fx.subV a b = Fx.chkV (a - b) from if_pos h)
    have HE := Lib.hid (show Fx.subE a b = Fx.chkE (a - b) from if_pos h)
    obtain ⟨ha, hb⟩ := h
    have a0 := Fx.sane_lo ha
    have a1 := Fx.sane_hi ha
    have b0 := Fx.sane_lo hb
    have b1 := Fx.sane_hi hb
    go_enter Try.func43, Try.ntmps43
    go_wp2_with (first | (go_at_call 30; refine (RMay_any _ _).mono ?_; rintro e w' ⟨rfl, rfl⟩) | (go_at_call 51; refine (Rtold_any _ _).mono ?_; rintro e w' ⟨rfl, rfl⟩))
    go_ret2
    exact ⟨ret_ints HV.out.symm HE.out.symm, rfl⟩
  · have HV := Lib.hid (show Fx.subV a b = 0 from if_neg h)
    have HE := Lib.hid (show Fx.subE a b = 2 from if_neg h)
    cases ha : Fx.saneB a
    · clear h
      go_enter Try.func43, Try.ntmps43
      go_wp2_with (go_at_call 30; refine (RMay_any _ _).mono ?_; rintro e w' ⟨rfl, rfl⟩)
      go_ret2
      exact ⟨ret_ints HV.out.symm HE.out.symm, rfl⟩
    · have hb : Fx.saneB b = false := by
        cases hb : Fx.saneB b
        · rfl
        · exact absurd ⟨ha, hb⟩ h
      clear h
      go_enter Try.func43, Try.ntmps43
      go_wp2_with (go_at_call 30; refine (RMay_any _ _).mono ?_; rintro e w' ⟨rfl, rfl⟩)
      go_ret2
      exact ⟨ret_ints HV.out.symm HE.out.symm, rfl⟩

set_option maxHeartbeats 400000 in
theorem RMul_any (a b : Int) (w : World) :
    Calls Try.prog 42 #[.int .i64 a, .int .i64 b] w fun e w' => e = .returned (.tuple #[.int .i64 (Fx.mulV a b), .int .i64 (Fx.mulE a b)]) ∧ w = w' := by
  by_cases h : Fx.saneB a = true ∧ Fx.saneB b = true
  · have HV := Lib.hid (show Fx.mulV a b = Fx.chkV (Fx.rnd (a * b) 1000) from if_pos h)
    have HE := Lib.hid (show Fx.mulE a b = Fx.chkE (Fx.rnd (a * b) 1000) from if_pos h)
    obtain ⟨ha, hb⟩ := h
    obtain ⟨m0, m1⟩ := Fx.mul_bd ha hb
    go_enter Try.func42, Try.ntmps42
    go_wp2_with (first | (go_at_call 30; refine (RMay_any _ _).mono ?_; rintro e w' ⟨rfl, rfl⟩) | (go_at_call 51; refine (Rtold_any _ _).mono ?_; rintro e w' ⟨rfl, rfl⟩) | (go_at_call 52; refine (RRound_any _ _ _ (by omega) (by omega) (by omega) (by omega)).mono ?_; rintro e w' ⟨rfl, rfl⟩))
    go_ret2
    exact ⟨ret_ints HV.out.symm HE.out.symm, rfl⟩
  · have HV := Lib.hid (show Fx.mulV a b = 0 from if_neg h)
    have HE := Lib.hid (show Fx.mulE a b = 2 from if_neg h)
    cases ha : Fx.saneB a
    · clear h
      go_enter Try.func42, Try.ntmps42
      go_wp2_with (go_at_call 30; refine (RMay_any _ _).mono ?_; rintro e w' ⟨rfl, rfl⟩)
      go_ret2
      exact ⟨ret_ints HV.out.symm HE.out.symm, rfl⟩
    · have hb : Fx.saneB b = false := by
        cases hb : Fx.saneB b
        · rfl
        · exact absurd ⟨ha, hb⟩ h
      clear h
      go_enter Try.func42, Try.ntmps42
      go_wp2_with (go_at_call 30; refine (RMay_any _ _).mono ?_; rintro e w' ⟨rfl, rfl⟩)
      go_ret2
      exact ⟨ret_ints HV.out.symm HE.out.symm, rfl⟩

set_option maxHeartbeats 400000 in
theorem RDiv_any (a b : Int) (w : World) :
    Calls Try.prog 41 #[.int .i64 a, .int .i64 b] w fun e w' => e = .returned (.tuple #[.int .i64 (Fx.divV a b), .int .i64 (Fx.divE a b)]) ∧ w = w' := by
  by_cases h : Fx.saneB a = true ∧ Fx.saneB b = true
  · by_cases hz : b = 0
    · have HZ := Lib.hid (Fx.div_zero h.1 h.2 hz)
      have hz' : (b == 0) = true := by simpa using hz
      obtain ⟨ha, hb⟩ := h
      clear hz
      go_enter Try.func41, Try.ntmps41
      go_wp2_with (go_at_call 30; refine (RMay_any _ _).mono ?_; rintro e w' ⟨rfl, rfl⟩)
      go_ret2
      exact ⟨ret_ints HZ.out.2.symm HZ.out.1.symm, rfl⟩
    · have HD := Lib.hid (Fx.div_in h hz)
      have hz' : (b == 0) = false := by simpa using hz
      obtain ⟨ha, hb⟩ := h
      have a0 := Fx.sane_lo ha
      have a1 := Fx.sane_hi ha
      have b0 := Fx.sane_lo hb
      have b1 := Fx.sane_hi hb
      have HB := Lib.hid (Fx.rnd_both (a * 1000) b hz)
      by_cases hn : b < 0
      · clear hz
        go_enter Try.func41, Try.ntmps41
        go_wp2_with (first | (go_at_call 30; refine (RMay_any _ _).mono ?_; rintro e w' ⟨rfl, rfl⟩) | (go_at_call 51; refine (Rtold_any _ _).mono ?_; rintro e w' ⟨rfl, rfl⟩) | (go_at_call 52; refine (RRound_any _ _ _ (by omega) (by omega) (by omega) (by omega)).mono ?_; rintro e w' ⟨rfl, rfl⟩))
        go_ret2
        have e : Fx.rnd (1000 * -a) (-b) = Fx.rnd (a * 1000) b := by rw [show 1000 * -a = -(a * 1000) by omega]; exact HB.out
        exact ⟨ret_ints (by rw [HD.out.1, e]) (by rw [HD.out.2, e]), rfl⟩
      · go_enter Try.func41, Try.ntmps41
        go_wp2_with (first | (go_at_call 30; refine (RMay_any _ _).mono ?_; rintro e w' ⟨rfl, rfl⟩) | (go_at_call 51; refine (Rtold_any _ _).mono ?_; rintro e w' ⟨rfl, rfl⟩) | (go_at_call 52; refine (RRound_any _ _ _ (by omega) (by omega) (by omega) (by omega)).mono ?_; rintro e w' ⟨rfl, rfl⟩))
        go_ret2
        exact ⟨ret_ints (by rw [HD.out.1, Int.mul_comm]) (by rw [HD.out.2, Int.mul_comm]), rfl⟩
  · have HV := Lib.hid (show Fx.divV a b = 0 from if_neg h)
    have HE := Lib.hid (show Fx.divE a b = 2 from if_neg h)
    cases ha : Fx.saneB a
    · clear h
      go_enter Try.func41, Try.ntmps41
      go_wp2_with (go_at_call 30; refine (RMay_any _ _).mono ?_; rintro e w' ⟨rfl, rfl⟩)
      go_ret2
      exact ⟨ret_ints HV.out.symm HE.out.symm, rfl⟩
    · have hb : Fx.saneB b = false := by
        cases hb : Fx.saneB b
        · rfl
        · exact absurd ⟨ha, hb⟩ h
      clear h
      go_enter Try.func41, Try.ntmps41
      go_wp2_with (go_at_call 30; refine (RMay_any _ _).mono ?_; rintro e w' ⟨rfl, rfl⟩)
      go_ret2
      exact ⟨ret_ints HV.out.symm HE.out.symm, rfl⟩

end Go.Proofs.Ytbckjejflbfjlaa
