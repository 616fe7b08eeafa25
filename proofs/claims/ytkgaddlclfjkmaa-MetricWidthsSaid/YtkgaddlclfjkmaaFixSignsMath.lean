/-
  Plain numbers behind the law FixSigns: signs turned; by 1, and divided by 1.
-/
import Derived.Test.YtkgaddlclfjkmaaFixNearMath
namespace Go.Proofs.Ytkgaddlclfjkmaa.Fx

theorem sane_neg (x : Int) : saneB (-x) = saneB x := by
  rw [Bool.eq_iff_iff, sane_iff, sane_iff]; omega
theorem mag_neg (x : Int) : mag (-x) = mag x := by unfold mag; split <;> split <;> omega
/-- Rounded, with the sign turned. -/
theorem rnd_neg (n d : Int) (hd : d ≠ 0) : rnd (-n) d = -(rnd n d) := by
  have e : mag ((-n).tmod d) = mag (n.tmod d) := by rw [Int.neg_tmod, mag_neg]
  by_cases h : 2 * mag (n.tmod d) < mag d
  · rw [rnd_low h, rnd_low (by rw [e]; exact h), Int.neg_tdiv]
  · have h' : mag d ≤ 2 * mag (n.tmod d) := by omega
    have h2 : mag d ≤ 2 * mag ((-n).tmod d) := by rw [e]; exact h'
    have hn : n ≠ 0 := by
      rintro rfl
      rw [Int.zero_tmod] at h'
      unfold mag at h'
      split at h' <;> simp at h' <;> omega
    by_cases a : n < 0 <;> by_cases b : d < 0
    · rw [rnd_more h' (by omega), rnd_less h2 (by omega), Int.neg_tdiv]; omega
    · rw [rnd_less h' (by omega), rnd_more h2 (by omega), Int.neg_tdiv]; omega
    · rw [rnd_less h' (by omega), rnd_more h2 (by omega), Int.neg_tdiv]; omega
    · rw [rnd_more h' (by omega), rnd_less h2 (by omega), Int.neg_tdiv]; omega
theorem mul_neg (a b : Int) : mulV (-a) b = -(mulV a b) ∧ mulE (-a) b = mulE a b := by
  unfold mulV mulE
  rw [sane_neg, show -a * b = -(a * b) by rw [Int.neg_mul], rnd_neg _ _ (by omega), (chk_neg _).1, (chk_neg _).2]
  by_cases h : saneB a = true ∧ saneB b = true
  · rw [if_pos h, if_pos h]; exact ⟨rfl, rfl⟩
  · rw [if_neg h, if_neg h]; exact ⟨rfl, rfl⟩
theorem div_in {a b : Int} (h : saneB a = true ∧ saneB b = true) (hb : b ≠ 0) : divV a b = chkV (rnd (a * 1000) b) ∧ divE a b = chkE (rnd (a * 1000) b) :=
  ⟨by unfold divV; rw [if_pos h, if_neg hb], by unfold divE; rw [if_pos h, if_neg hb]⟩
theorem div_out {a b : Int} (h : ¬ (saneB a = true ∧ saneB b = true)) : divV a b = 0 ∧ divE a b = 2 := ⟨if_neg h, if_neg h⟩
theorem div_neg (a b : Int) : divV (-a) b = -(divV a b) ∧ divE (-a) b = divE a b := by
  by_cases h : saneB a = true ∧ saneB b = true
  · have h' : saneB (-a) = true ∧ saneB b = true := by rw [sane_neg]; exact h
    by_cases hb : b = 0
    · rw [(div_zero h.1 h.2 hb).1, (div_zero h.1 h.2 hb).2, (div_zero h'.1 h'.2 hb).1, (div_zero h'.1 h'.2 hb).2]; exact ⟨rfl, rfl⟩
    · rw [(div_in h hb).1, (div_in h hb).2, (div_in h' hb).1, (div_in h' hb).2, show -a * 1000 = -(a * 1000) by rw [Int.neg_mul], rnd_neg _ _ hb, (chk_neg _).1, (chk_neg _).2]; exact ⟨rfl, rfl⟩
  · have h' : ¬ (saneB (-a) = true ∧ saneB b = true) := by rw [sane_neg]; exact h
    rw [(div_out h).1, (div_out h).2, (div_out h').1, (div_out h').2]; exact ⟨rfl, rfl⟩
/-- A whole quotient is itself. -/
theorem rnd_whole (a : Int) : rnd (a * 1000) 1000 = a := by
  rw [rnd_low, Int.mul_tdiv_cancel a (by omega)]
  rw [Int.mul_tmod_left]; decide
theorem mul_one' {a : Int} (h : saneB a = true) : mulV a 1000 = a ∧ mulE a 1000 = 0 := by
  have h1 : saneB 1000 = true := by decide
  unfold mulV mulE
  rw [if_pos ⟨h, h1⟩, if_pos ⟨h, h1⟩, rnd_whole]
  unfold chkV chkE
  rw [if_pos h, if_pos h]; exact ⟨rfl, rfl⟩
theorem div_one' {a : Int} (h : saneB a = true) : divV a 1000 = a ∧ divE a 1000 = 0 := by
  have h1 : saneB 1000 = true := by decide
  rw [(div_in ⟨h, h1⟩ (by omega)).1, (div_in ⟨h, h1⟩ (by omega)).2, rnd_whole]
  unfold chkV chkE
  rw [if_pos h, if_pos h]; exact ⟨rfl, rfl⟩
theorem mulV_bd (a b : Int) : -2147483648 ≤ mulV a b ∧ mulV a b ≤ 2147483648 := by
  unfold mulV; split
  · exact chkV_bd _
  · omega
theorem divV_bd (a b : Int) : -2147483648 ≤ divV a b ∧ divV a b ≤ 2147483648 := by
  unfold divV; split
  · split
    · omega
    · exact chkV_bd _
  · omega

end Go.Proofs.Ytkgaddlclfjkmaa.Fx
