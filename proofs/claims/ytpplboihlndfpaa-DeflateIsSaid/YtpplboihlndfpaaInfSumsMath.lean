/-
  Sums of bytes that differ in one byte; codes of lengths: none begins another, each fits into its bits.
-/
import Derived.Test.YtpplboihlndfpaaInfMath
namespace Go.Proofs.Ytpplboihlndfpaa.Ix
set_option linter.unusedSimpArgs false
set_option linter.unusedVariables false

def total : List UInt8 → Nat
  | [] => 0
  | v :: r => v.toNat + total r
theorem adlerGo_fst : ∀ (l : List UInt8) (a c : Nat), a < 65521 → (adlerGo l a c).1 = (a + total l) % 65521
  | [], a, c, ha => by simp [adlerGo, total, Nat.mod_eq_of_lt ha]
  | v :: r, a, c, ha => by
    rw [adlerGo, adlerGo_fst r _ _ (Nat.mod_lt _ (by decide)), total]
    omega
theorem total_set : ∀ (l : List UInt8) (k : Nat) (v : UInt8) (h : k < l.length), total (l.set k v) + l[k].toNat = total l + v.toNat
  | x :: r, 0, v, _ => by simp [total]; omega
  | x :: r, k + 1, v, h => by
    have := total_set r k v (by simpa using h)
    simp only [List.set_cons_succ, total, List.getElem_cons_succ]
    omega
theorem adler_set (l : List UInt8) (k : Nat) (v : UInt8) (h : k < l.length) (hv : v ≠ l[k]) : adler l ≠ adler (l.set k v) := by
  intro e
  have h1 := adlerGo_lt l 1 0 (by decide) (by decide)
  have h2 := adlerGo_lt (l.set k v) 1 0 (by decide) (by decide)
  have e1 := adlerGo_fst l 1 0 (by decide)
  have e2 := adlerGo_fst (l.set k v) 1 0 (by decide)
  have hs := total_set l k v h
  unfold adler at e
  have ha : (adlerGo l 1 0).1 = (adlerGo (l.set k v) 1 0).1 := by omega
  rw [e1, e2] at ha
  have b1 := v.toNat_lt
  have b2 := l[k].toNat_lt
  have hne : v.toNat ≠ l[k].toNat := fun e => hv (UInt8.toNat_inj.1 e)
  omega
theorem adler_lt (l : List UInt8) : adler l < 4294967296 := by
  have h1 := adlerGo_lt l 1 0 (by decide) (by decide)
  unfold adler
  omega

theorem cnt_take_mono (L : List Nat) (i j n : Nat) (h : i ≤ j) : cnt (L.take i) n ≤ cnt (L.take j) n := by
  have : L.take i = (L.take j).take i := by rw [List.take_take, Nat.min_eq_left h]
  rw [this]
  exact cnt_take_le _ _ _
theorem fst_grow (L : List Nat) (n d : Nat) : 2 ^ (d + 1) * beh L n ≤ fst L (n + d + 1) := by
  have := beh_grow L n d
  rw [fst_succ, Nat.pow_succ, Nat.mul_comm (2 ^ d) 2, Nat.mul_assoc]
  omega
theorem code_eq (L : List Nat) (i : Nat) (h : i < L.length) (h0 : 0 < L[i]) : code L i = fst L L[i] + cnt (L.take i) L[i] := by
  have hg : L.getD i 0 = L[i] := by simp [List.getD, h]
  unfold code
  rw [hg, if_neg (by omega)]
theorem code_ne (L : List Nat) (i k : Nat) (hi : i < L.length) (hk : k < L.length) (h0 : 0 < L[i]) (he : L[k] = L[i]) (hlt : i < k) : code L i < code L k := by
  rw [code_eq L i hi h0, code_eq L k hk (by omega), he]
  have h1 := cnt_take_succ L i hi L[i]
  rw [if_pos rfl] at h1
  have h2 := cnt_take_mono L (i + 1) k L[i] hlt
  omega
theorem code_apart (L : List Nat) (i k : Nat) (hi : i < L.length) (hk : k < L.length) (h0 : 0 < L[i]) (hle : L[i] ≤ L[k]) (hne : k ≠ i) : code L k / 2 ^ (L[k] - L[i]) ≠ code L i := by
  by_cases he : L[k] = L[i]
  · rw [he, Nat.sub_self, Nat.pow_zero, Nat.div_one]
    rcases Nat.lt_or_gt_of_ne hne with h | h
    · have := code_ne L k i hk hi (by omega) he.symm h; omega
    · have := code_ne L i k hi hk h0 he h; omega
  · obtain ⟨d, hd⟩ : ∃ d, L[k] = L[i] + d + 1 := ⟨L[k] - L[i] - 1, by omega⟩
    have h1 := (code_lt L i hi h0).2
    have h2 := (code_lt L k hk (by omega)).1
    have h3 := fst_grow L L[i] d
    rw [hd] at h2 ⊢
    rw [show L[i] + d + 1 - L[i] = d + 1 by omega]
    have : beh L L[i] ≤ code L k / 2 ^ (d + 1) := by
      rw [Nat.le_div_iff_mul_le (Nat.two_pow_pos _), Nat.mul_comm]
      omega
    omega

theorem cnt_three (m : Nat) (h0 : m ≠ 0) (h1 : m ≠ 1) : ∀ L : List Nat, cnt L 0 + cnt L 1 + cnt L m ≤ L.length
  | [] => by simp [cnt]
  | x :: r => by
    have := cnt_three m h0 h1 r
    unfold cnt at *
    simp only [List.count_cons, List.length_cons]
    by_cases e0 : x = 0
    · subst e0; simp [Ne.symm h0]; omega
    · by_cases e1 : x = 1
      · subst e1; simp [Ne.symm h1]; omega
      · by_cases em : x = m
        · subst em; simp [e0, e1]; omega
        · simp [e0, e1, em]; omega
theorem cnt_pos (L : List Nat) (i : Nat) (h : i < L.length) : 1 ≤ cnt L L[i] := by
  have := cnt_take_lt L i h; omega
theorem cnt_two (m : Nat) (h0 : m ≠ 0) : ∀ L : List Nat, cnt L 0 + cnt L m ≤ L.length
  | [] => by simp [cnt]
  | x :: r => by
    have := cnt_two m h0 r
    unfold cnt at *
    simp only [List.count_cons, List.length_cons]
    by_cases e0 : x = 0
    · subst e0; simp [Ne.symm h0]; omega
    · by_cases em : x = m
      · subst em; simp [e0]; omega
      · simp [e0, em]; omega
theorem code_fits (L : List Nat) (h15 : ∀ x ∈ L, x ≤ 15) (ht : isTree L = true) (i : Nat) (h : i < L.length) : code L i < 2 ^ L[i] := by
  by_cases h0 : L[i] = 0
  · have hg : L.getD i 0 = L[i] := by simp [List.getD, h]
    unfold code
    rw [hg, if_pos h0, h0]; decide
  · have h1 := code_lt L i h (by omega)
    unfold isTree at ht
    by_cases hw : whole L = true
    · have := beh_fits hw L[i] (h15 _ (List.getElem_mem h)); omega
    · have hw := Bool.eq_false_iff.2 hw
      rw [hw, Bool.false_or] at ht
      unfold lack at ht
      have hp := cnt_pos L i h
      have h2 := cnt_two L[i] h0 L
      have hl := cnt_le L 0
      unfold used at ht
      rw [Bool.or_eq_true, Bool.and_eq_true, beq_iff_eq, beq_iff_eq, beq_iff_eq] at ht
      rcases ht with ht | ⟨ht, hc⟩
      · omega
      · by_cases e1 : L[i] = 1
        · rw [e1] at h1 ⊢
          have : beh L 1 = cnt L 1 := by rw [beh_succ]; simp [fst, beh]
          omega
        · have := cnt_three L[i] h0 e1 L; omega

end Go.Proofs.Ytpplboihlndfpaa.Ix
