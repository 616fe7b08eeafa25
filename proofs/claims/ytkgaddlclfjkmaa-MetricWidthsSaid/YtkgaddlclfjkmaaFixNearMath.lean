/-
  Plain numbers behind the laws FixNear and FixSigns: how far a rounded quotient is from the whole one; signs.
-/
import Derived.Test.YtkgaddlclfjkmaaFixLawMath
namespace Go.Proofs.Ytkgaddlclfjkmaa.Fx

theorem tmod_sign (n d : Int) : (0 ≤ n → 0 ≤ n.tmod d) ∧ (n ≤ 0 → n.tmod d ≤ 0) := by
  refine ⟨fun h => Int.tmod_nonneg d h, fun h => ?_⟩
  have := Int.tmod_nonneg d (show 0 ≤ -n by omega)
  rw [Int.neg_tmod] at this
  omega
/-- Rounded is no farther than a half. -/
theorem rnd_near (n d : Int) (hd : d ≠ 0) : 2 * mag (n - d * rnd n d) ≤ mag d := by
  have e := Int.mul_tdiv_add_tmod n d
  obtain ⟨r0, r1⟩ := tmod_bd n d hd
  obtain ⟨s0, s1⟩ := tmod_sign n d
  by_cases h : 2 * mag (n.tmod d) < mag d
  · rw [rnd_low h, show n - d * n.tdiv d = n.tmod d by omega]; omega
  · have h' : mag d ≤ 2 * mag (n.tmod d) := by omega
    by_cases a : n < 0 <;> by_cases b : d < 0
    · rw [rnd_more h' (by omega), Int.mul_add, show n - (d * n.tdiv d + d * 1) = n.tmod d - d by omega]
      have := s1 (by omega)
      generalize n.tmod d = r at *
      unfold mag at *; split <;> split at h' <;> split at h' <;> omega
    · rw [rnd_less h' (by omega), Int.mul_sub, show n - (d * n.tdiv d - d * 1) = n.tmod d + d by omega]
      have := s1 (by omega)
      generalize n.tmod d = r at *
      unfold mag at *; split <;> split at h' <;> split at h' <;> omega
    · rw [rnd_less h' (by omega), Int.mul_sub, show n - (d * n.tdiv d - d * 1) = n.tmod d + d by omega]
      have := s0 (by omega)
      generalize n.tmod d = r at *
      unfold mag at *; split <;> split at h' <;> split at h' <;> omega
    · rw [rnd_more h' (by omega), Int.mul_add, show n - (d * n.tdiv d + d * 1) = n.tmod d - d by omega]
      have := s0 (by omega)
      generalize n.tmod d = r at *
      unfold mag at *; split <;> split at h' <;> split at h' <;> omega

theorem mul_or {a b : Int} (ha : saneB a = true) (hb : saneB b = true) :
    mulE a b = 0 ∧ -500 ≤ a * b - 1000 * mulV a b ∧ a * b - 1000 * mulV a b ≤ 500 ∧ -2147483648 ≤ mulV a b ∧ mulV a b ≤ 2147483648 ∨ mulE a b = 2 ∧ mulV a b = 0 := by
  have h := rnd_near (a * b) 1000 (by omega)
  unfold mulE mulV
  rw [if_pos ⟨ha, hb⟩, if_pos ⟨ha, hb⟩]
  rcases chkE_or (rnd (a * b) 1000) with ⟨h1, h2, h3⟩ | ⟨h1, _, h3⟩
  · left
    rw [h3]
    have := sane_iff.1 h2
    refine ⟨h1, ?_⟩
    generalize rnd (a * b) 1000 = q at *
    generalize a * b = p at *
    unfold mag at h
    split at h <;> split at h <;> omega
  · exact .inr ⟨h1, h3⟩
theorem div_or {a b : Int} (ha : saneB a = true) (hb : saneB b = true) (h0 : b ≠ 0) :
    divE a b = 0 ∧ 2 * mag (1000 * a - divV a b * b) ≤ mag b ∧ saneB (divV a b) = true ∨ divE a b = 2 ∧ divV a b = 0 := by
  have h := rnd_near (a * 1000) b h0
  have e1 : divE a b = chkE (rnd (a * 1000) b) := by unfold divE; rw [if_pos ⟨ha, hb⟩, if_neg h0]
  have e2 : divV a b = chkV (rnd (a * 1000) b) := by unfold divV; rw [if_pos ⟨ha, hb⟩, if_neg h0]
  rw [e1, e2]
  rcases chkE_or (rnd (a * 1000) b) with ⟨h1, h2, h3⟩ | ⟨h1, _, h3⟩
  · left
    rw [h3, Int.mul_comm 1000 a, Int.mul_comm (rnd (a * 1000) b) b]
    exact ⟨h1, h, h2⟩
  · exact .inr ⟨h1, h3⟩
theorem div_zero {a b : Int} (ha : saneB a = true) (hb : saneB b = true) (h0 : b = 0) : divE a b = 1 ∧ divV a b = 0 := by
  exact ⟨by unfold divE; rw [if_pos ⟨ha, hb⟩, if_pos h0], by unfold divV; rw [if_pos ⟨ha, hb⟩, if_pos h0]⟩

end Go.Proofs.Ytkgaddlclfjkmaa.Fx
