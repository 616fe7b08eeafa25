/-
  What package fix's Add, Sub, Mul, Div and Int answer, at all numbers.
-/
import Derived.Test.YtbckjejflbfjlaaFixWalks
namespace Go.Proofs.Ytbckjejflbfjlaa
open Go.RowKit

set_option maxHeartbeats 400000 in
theorem Add_any (a b : Int) (w : World) :
    Calls Try.prog 46 #[.int .i64 a, .int .i64 b] w fun e w' => e = .returned (.tuple #[.int .i64 (Fx.addV a b), .int .i64 (Fx.addE a b)]) ∧ Kept w w' := by
  by_cases h : Fx.saneB a = true ∧ Fx.saneB b = true
  · have HV := Lib.hid (show Fx.addV a b = Fx.chkV (a + b) from if_pos h)
    have HE := Lib.hid (show Fx.addE a b = Fx.chkE (a + b) from if_pos h)
    have hs : (Fx.saneB a && Fx.saneB b) = true := by simp [h]
    obtain ⟨ha, hb⟩ := h
    have a0 := Fx.sane_lo ha
    have a1 := Fx.sane_hi ha
    have b0 := Fx.sane_lo hb
    have b1 := Fx.sane_hi hb
    go_enter Try.func46, Try.ntmps46
    go_wp2_with (first | (go_at_call 53; refine (sane_new2 a b _).mono ?_; rintro e w' ⟨rfl, rfl⟩) | (go_at_call 54; refine (checked_any _ _).mono ?_; rintro e w' ⟨rfl, hg⟩))
    go_ret2
    exact ⟨ret_ints HV.out.symm HE.out.symm, Kept.trans ((Kept.refl _).alloc _ _) hg⟩
  · have HV := Lib.hid (show Fx.addV a b = 0 from if_neg h)
    have HE := Lib.hid (show Fx.addE a b = 2 from if_neg h)
    have hs : (Fx.saneB a && Fx.saneB b) = false := by simpa using h
    clear h
    go_enter Try.func46, Try.ntmps46
    go_wp2_with (go_at_call 53; refine (sane_new2 a b _).mono ?_; rintro e w' ⟨rfl, rfl⟩)
    go_ret2
    exact ⟨ret_ints HV.out.symm HE.out.symm, (Kept.refl _).alloc _ _⟩

set_option maxHeartbeats 400000 in
theorem Sub_any (a b : Int) (w : World) :
    Calls Try.prog 44 #[.int .i64 a, .int .i64 b] w fun e w' => e = .returned (.tuple #[.int .i64 (Fx.subV a b), .int .i64 (Fx.subE a b)]) ∧ Kept w w' := by
  by_cases h : Fx.saneB a = true ∧ Fx.saneB b = true
  · have HV := Lib.hid (show Fx.subV a b = Fx.chkV (a - b) from if_pos h)
    have HE := Lib.hid (show Fx.subE a b = Fx.chkE (a - b) from if_pos h)
    have hs : (Fx.saneB a && Fx.saneB b) = true := by simp [h]
    obtain ⟨ha, hb⟩ := h
    have a0 := Fx.sane_lo ha
    have a1 := Fx.sane_hi ha
    have b0 := Fx.sane_lo hb
    have b1 := Fx.sane_hi hb
    go_enter Try.func44, Try.ntmps44
    go_wp2_with (first | (go_at_call 53; refine (sane_new2 a b _).mono ?_; rintro e w' ⟨rfl, rfl⟩) | (go_at_call 54; refine (checked_any _ _).mono ?_; rintro e w' ⟨rfl, hg⟩))
    go_ret2
    exact ⟨ret_ints HV.out.symm HE.out.symm, Kept.trans ((Kept.refl _).alloc _ _) hg⟩
  · have HV := Lib.hid (show Fx.subV a b = 0 from if_neg h)
    have HE := Lib.hid (show Fx.subE a b = 2 from if_neg h)
    have hs : (Fx.saneB a && Fx.saneB b) = false := by simpa using h
    clear h
    go_enter Try.func44, Try.ntmps44
    go_wp2_with (go_at_call 53; refine (sane_new2 a b _).mono ?_; rintro e w' ⟨rfl, rfl⟩)
    go_ret2
    exact ⟨ret_ints HV.out.symm HE.out.symm, (Kept.refl _).alloc _ _⟩

set_option maxHeartbeats 400000 in
theorem Mul_any (a b : Int) (w : World) :
    Calls Try.prog 50 #[.int .i64 a, .int .i64 b] w fun e w' => e = .returned (.tuple #[.int .i64 (Fx.mulV a b), .int .i64 (Fx.mulE a b)]) ∧ Kept w w' := by
  by_cases h : Fx.saneB a = true ∧ Fx.saneB b = true
  · have HV := Lib.hid (show Fx.mulV a b = Fx.chkV (Fx.rnd (a * b) 1000) from if_pos h)
    have HE := Lib.hid (show Fx.mulE a b = Fx.chkE (Fx.rnd (a * b) 1000) from if_pos h)
    have hs : (Fx.saneB a && Fx.saneB b) = true := by simp [h]
    obtain ⟨ha, hb⟩ := h
    obtain ⟨m0, m1⟩ := Fx.mul_bd ha hb
    have hg1 := Kept.alloc (Kept.refl w) #[.int .i64 a, .int .i64 b] 22
    have HG := Lib.hid hg1
    clear hg1
    go_enter Try.func50, Try.ntmps50
    go_wp2_with (first | (go_at_call 53; refine (sane_new2 a b _).mono ?_; rintro e w' ⟨rfl, rfl⟩) | (go_at_call 55; refine (rounded_any _ _ _ (by omega) (by omega) (by omega) (by omega) (by omega)).mono ?_; rintro e w' ⟨rfl, k, rfl⟩) | (go_at_call 54; refine (checked_any _ _).mono ?_; rintro e w' ⟨rfl, hg⟩))
    go_ret2
    exact ⟨ret_ints HV.out.symm HE.out.symm, Kept.trans (Kept.drewN HG.out k) hg⟩
  · have HV := Lib.hid (show Fx.mulV a b = 0 from if_neg h)
    have HE := Lib.hid (show Fx.mulE a b = 2 from if_neg h)
    have hs : (Fx.saneB a && Fx.saneB b) = false := by simpa using h
    clear h
    go_enter Try.func50, Try.ntmps50
    go_wp2_with (go_at_call 53; refine (sane_new2 a b _).mono ?_; rintro e w' ⟨rfl, rfl⟩)
    go_ret2
    exact ⟨ret_ints HV.out.symm HE.out.symm, (Kept.refl _).alloc _ _⟩

set_option maxHeartbeats 400000 in
theorem Div_any (a b : Int) (w : World) :
    Calls Try.prog 49 #[.int .i64 a, .int .i64 b] w fun e w' => e = .returned (.tuple #[.int .i64 (Fx.divV a b), .int .i64 (Fx.divE a b)]) ∧ Kept w w' := by
  by_cases h : Fx.saneB a = true ∧ Fx.saneB b = true
  · have hs : (Fx.saneB a && Fx.saneB b) = true := by simp [h]
    have a0 := Fx.sane_lo h.1
    have a1 := Fx.sane_hi h.1
    have b0 := Fx.sane_lo h.2
    have b1 := Fx.sane_hi h.2
    have HG := Lib.hid (Kept.alloc (Kept.refl w) #[.int .i64 a, .int .i64 b] 22)
    by_cases hz : b = 0
    · have HV := Lib.hid (show Fx.divV a b = 0 by rw [Fx.divV, if_pos h, if_pos hz])
      have HE := Lib.hid (show Fx.divE a b = 1 by rw [Fx.divE, if_pos h, if_pos hz])
      have hz' : (b == 0) = true := by simpa using hz
      clear h hz
      go_enter Try.func49, Try.ntmps49
      go_wp2_with (go_at_call 53; refine (sane_new2 a b _).mono ?_; rintro e w' ⟨rfl, rfl⟩)
      go_ret2
      exact ⟨ret_ints HV.out.symm HE.out.symm, HG.out⟩
    · have HV := Lib.hid (show Fx.divV a b = Fx.chkV (Fx.rnd (a * 1000) b) by rw [Fx.divV, if_pos h, if_neg hz])
      have HE := Lib.hid (show Fx.divE a b = Fx.chkE (Fx.rnd (a * 1000) b) by rw [Fx.divE, if_pos h, if_neg hz])
      have hz' : (b == 0) = false := by simpa using hz
      clear h
      go_enter Try.func49, Try.ntmps49
      go_wp2_with (first | (go_at_call 53; refine (sane_new2 a b _).mono ?_; rintro e w' ⟨rfl, rfl⟩) | (go_at_call 55; refine (rounded_any _ _ _ (by omega) (by omega) (by omega) (by omega) (by omega)).mono ?_; rintro e w' ⟨rfl, k, rfl⟩) | (go_at_call 54; refine (checked_any _ _).mono ?_; rintro e w' ⟨rfl, hg⟩))
      go_ret2
      exact ⟨ret_ints HV.out.symm HE.out.symm, Kept.trans (Kept.drewN HG.out k) hg⟩
  · have HV := Lib.hid (show Fx.divV a b = 0 from if_neg h)
    have HE := Lib.hid (show Fx.divE a b = 2 from if_neg h)
    have hs : (Fx.saneB a && Fx.saneB b) = false := by simpa using h
    clear h
    go_enter Try.func49, Try.ntmps49
    go_wp2_with (go_at_call 53; refine (sane_new2 a b _).mono ?_; rintro e w' ⟨rfl, rfl⟩)
    go_ret2
    exact ⟨ret_ints HV.out.symm HE.out.symm, (Kept.refl _).alloc _ _⟩

end Go.Proofs.Ytbckjejflbfjlaa
