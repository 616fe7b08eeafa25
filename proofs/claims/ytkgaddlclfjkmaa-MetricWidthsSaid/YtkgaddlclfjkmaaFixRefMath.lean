/-
  Plain numbers behind the law FixReckons: the rounded quotient, told by whole parts alone.
-/
import Derived.Test.YtkgaddlclfjkmaaFixSignsMath
namespace Go.Proofs.Ytkgaddlclfjkmaa.Fx

theorem rnd_negd (n d : Int) (hd : d ≠ 0) : rnd n (-d) = -(rnd n d) := by
  have e : n.tmod (-d) = n.tmod d := Int.tmod_neg n d
  by_cases h : 2 * mag (n.tmod d) < mag d
  · rw [rnd_low h, rnd_low (by rw [e, mag_neg]; exact h), Int.tdiv_neg]
  · have h' : mag d ≤ 2 * mag (n.tmod d) := by omega
    have h2 : mag (-d) ≤ 2 * mag (n.tmod (-d)) := by rw [e, mag_neg]; exact h'
    have hn : n ≠ 0 := by
      rintro rfl
      rw [Int.zero_tmod] at h'
      unfold mag at h'
      split at h' <;> simp at h' <;> omega
    by_cases a : n < 0 <;> by_cases b : d < 0
    · rw [rnd_more h' (by omega), rnd_less h2 (by omega), Int.tdiv_neg]; omega
    · rw [rnd_less h' (by omega), rnd_more h2 (by omega), Int.tdiv_neg]; omega
    · rw [rnd_less h' (by omega), rnd_more h2 (by omega), Int.tdiv_neg]; omega
    · rw [rnd_more h' (by omega), rnd_less h2 (by omega), Int.tdiv_neg]; omega
theorem rnd_both (n d : Int) (hd : d ≠ 0) : rnd (-n) (-d) = rnd n d := by
  rw [rnd_neg _ _ (by omega), rnd_negd _ _ hd]; omega
/-- At numbers that are not below 0. -/
theorem rnd_up {n d : Int} (hn : 0 ≤ n) (hd : 1 ≤ d) (h : d ≤ 2 * (n % d)) : rnd n d = n / d + 1 := by
  have e1 : n.tmod d = n % d := Int.tmod_eq_emod_of_nonneg hn
  have e2 : n.tdiv d = n / d := Int.tdiv_eq_ediv_of_nonneg hn
  have r := Int.emod_nonneg n (show d ≠ 0 by omega)
  rw [rnd_more (by rw [e1, show mag d = d from if_neg (by omega), show mag (n % d) = n % d from if_neg (by omega)]; exact h) (by omega), e2]
theorem rnd_down {n d : Int} (hn : 0 ≤ n) (hd : 1 ≤ d) (h : 2 * (n % d) < d) : rnd n d = n / d := by
  have e1 : n.tmod d = n % d := Int.tmod_eq_emod_of_nonneg hn
  have e2 : n.tdiv d = n / d := Int.tdiv_eq_ediv_of_nonneg hn
  have r := Int.emod_nonneg n (show d ≠ 0 by omega)
  rw [rnd_low (by rw [e1, show mag d = d from if_neg (by omega), show mag (n % d) = n % d from if_neg (by omega)]; exact h), e2]
theorem ediv_bd {n d : Int} (hn : 0 ≤ n) (hd : 1 ≤ d) : 0 ≤ n / d ∧ n / d ≤ n ∧ 0 ≤ n % d ∧ n % d < d :=
  ⟨Int.ediv_nonneg hn (by omega), Int.ediv_le_self _ hn, Int.emod_nonneg _ (by omega), Int.emod_lt_of_pos _ (by omega)⟩
theorem rnd_bd {n d : Int} : -(mag n + 1) ≤ rnd n d ∧ rnd n d ≤ mag n + 1 := by
  have := tdiv_bd n d
  unfold rnd
  split
  · omega
  · split <;> omega

theorem int_told (n : Int) : intV n = chkV (1000 * n) ∧ intE n = chkE (1000 * n) := by
  unfold intV intE chkV chkE
  by_cases h : -2147483 ≤ n ∧ n ≤ 2147483
  · have h' : saneB (1000 * n) = true := by rw [sane_iff]; omega
    rw [if_pos h, if_pos h', if_pos h, if_pos h']
    exact ⟨by omega, rfl⟩
  · have h' : ¬ saneB (1000 * n) = true := by rw [sane_iff]; omega
    rw [if_neg h, if_neg h', if_neg h, if_neg h']
    exact ⟨rfl, rfl⟩

end Go.Proofs.Ytkgaddlclfjkmaa.Fx
