/-
  Codes that are looked for one by one; how many bits more a symbol has.
-/
import Derived.Test.YtkobcgemllcfoaaDoorInfOwnMath
import Derived.Test.YtkobcgemllcfoaaDoorInfRefCodesMath
namespace Go.Proofs.YtkobcgemllcfoaaDoor.Ix
set_option linter.unusedSimpArgs false
set_option linter.unusedVariables false

theorem pos_pre (L : List Nat) (n j : Nat) : ∀ d, j + d ≤ L.length → ∃ r, pos (L.take (j + d)) n = pos (L.take j) n ++ r
  | 0, _ => ⟨[], by simp⟩
  | d + 1, h => by
    obtain ⟨r, hr⟩ := pos_pre L n j d (by omega)
    rw [← Nat.add_assoc, pos_take L (j + d) (by omega), hr]
    exact ⟨r ++ (if L[j + d] = n then [j + d] else []), by rw [List.append_assoc]⟩
theorem pos_at (L : List Nat) (i : Nat) (h : i < L.length) : (pos L L[i]).getD (cnt (L.take i) L[i]) 0 = i := by
  obtain ⟨r, hr⟩ := pos_pre L L[i] (i + 1) (L.length - (i + 1)) (by omega)
  rw [show i + 1 + (L.length - (i + 1)) = L.length by omega, List.take_length, pos_take L i h, if_pos rfl] at hr
  have hl := pos_take_len L L[i] i (by omega)
  rw [hr, List.getD_eq_getElem?_getD, List.append_assoc, List.getElem?_append_right (by omega), hl, Nat.sub_self]
  rfl
theorem pos_in (L : List Nat) (n k : Nat) (h : k < cnt L n) : ∃ hi : (pos L n).getD k 0 < L.length, L[(pos L n).getD k 0] = n ∧ cnt (L.take ((pos L n).getD k 0)) n = k := by
  have hp := pos_len L n
  have hk : k < (pos L n).length := by omega
  have hm : (pos L n).getD k 0 ∈ pos L n := by
    rw [List.getD_eq_getElem?_getD, List.getElem?_eq_getElem hk, Option.getD_some]
    exact List.getElem_mem hk
  have hm2 := hm
  unfold pos at hm
  rw [List.mem_filter, List.mem_range, beq_iff_eq] at hm
  obtain ⟨h1, h2⟩ := hm
  obtain ⟨x, hx⟩ : ∃ x, x = (pos L n).getD k 0 := ⟨_, rfl⟩
  have h1' : x < L.length := by rw [hx]; exact h1
  have h2' : L[x] = n := by rw [← getD_at L x h1', hx]; exact h2
  have hpx := pos_at L x h1'
  rw [h2'] at hpx
  have hc := cnt_take_lt L x h1'
  rw [h2'] at hc
  have hnd : (pos L n).Nodup := by
    unfold pos
    exact List.Pairwise.filter _ List.nodup_range
  have e : cnt (L.take x) n = k := by
    have hc2 : cnt (L.take x) n < (pos L n).length := by omega
    rw [List.getD_eq_getElem?_getD, List.getElem?_eq_getElem hc2, Option.getD_some] at hpx
    rw [List.getD_eq_getElem?_getD, List.getElem?_eq_getElem hk, Option.getD_some] at hx
    exact (List.getElem_inj hnd).1 (hpx.trans hx)
  refine ⟨h1, ?_, ?_⟩
  · simp only [← hx]; exact h2'
  · simp only [← hx]; exact e
/-- Where the code is. -/
theorem look_hit (L : List Nat) (n v : Nat) (h1 : 1 ≤ n) (h : fst L n ≤ v ∧ v < beh L n) : ∃ i, ∃ hi : i < L.length, i = (pos L n).getD (v - fst L n) 0 ∧ L[i] = n ∧ code L i = v ∧ ∀ j, (hj : j < i) → L[j] = n → code L j ≠ v := by
  obtain ⟨m, rfl⟩ : ∃ m, n = m + 1 := ⟨n - 1, by omega⟩
  rw [beh_succ] at h
  obtain ⟨hi, h2, h3⟩ := pos_in L (m + 1) (v - fst L (m + 1)) (by omega)
  refine ⟨_, hi, rfl, h2, ?_, fun j hj hn hc => ?_⟩
  · unfold code
    rw [getD_at L _ hi, h2, if_neg (by omega), h3]; omega
  · have hjl : j < L.length := by omega
    unfold code at hc
    rw [getD_at L j hjl, hn, if_neg (by omega)] at hc
    have hp := pos_at L j hjl
    rw [hn] at hp
    rw [show cnt (L.take j) (m + 1) = v - fst L (m + 1) by omega] at hp
    omega
theorem look_no (L : List Nat) (n v : Nat) (h1 : 1 ≤ n) (h : ¬ (fst L n ≤ v ∧ v < beh L n)) (j : Nat) (hj : j < L.length) (hn : L[j] = n) : code L j ≠ v := by
  intro hc
  have := code_lt L j hj (by omega)
  rw [hn] at this
  omega

/-- How many bits more, and where they begin. -/
def moreB (base each : Nat) : Nat → Nat
  | 0 => base
  | i + 1 => moreB base each i + 2 ^ (i / each - 1)
theorem more4 : (List.range 28).all (fun k => moreB 3 4 k == 3 + spanB k 4 && k / 4 - 1 == spanN k 4) = true := by kernel_rfl
theorem more2 : (List.range 30).all (fun k => moreB 1 2 k == 1 + spanB k 2 && k / 2 - 1 == spanN k 2) = true := by kernel_rfl
theorem more4_is (k : Nat) (h : k < 28) : moreB 3 4 k = 3 + spanB k 4 ∧ k / 4 - 1 = spanN k 4 := by
  have := List.all_eq_true.1 more4 k (List.mem_range.2 h)
  rw [Bool.and_eq_true, beq_iff_eq, beq_iff_eq] at this
  exact this
theorem more2_is (k : Nat) (h : k < 30) : moreB 1 2 k = 1 + spanB k 2 ∧ k / 2 - 1 = spanN k 2 := by
  have := List.all_eq_true.1 more2 k (List.mem_range.2 h)
  rw [Bool.and_eq_true, beq_iff_eq, beq_iff_eq] at this
  exact this
theorem more_le (base each : Nat) (hb : base ≤ 3) : ∀ k, k ≤ 32 → 2 ≤ each → moreB base each k ≤ 3 + k * 65536
  | 0, _, _ => by simp [moreB]; omega
  | k + 1, h, he => by
    have ih := more_le base each hb k (by omega) he
    have h1 : k / each - 1 ≤ 15 := by
      have : k / each ≤ k / 2 := Nat.div_le_div_left he (by decide)
      omega
    have h2 : 2 ^ (k / each - 1) ≤ 2 ^ 15 := Nat.pow_le_pow_right (by decide) h1
    rw [moreB]; omega
theorem num8 (B : List UInt8) (k : Nat) : numAt B 8 (8 * k) = (B.getD k 0).toNat := by
  have h := (B.getD k 0).toNat_lt
  have b : ∀ j, j < 8 → bitAt B (8 * k + j) = (B.getD k 0).toNat / 2 ^ j % 2 := by
    intro j hj
    unfold bitAt
    rw [show (8 * k + j) / 8 = k by omega, show (8 * k + j) % 8 = j by omega]
  simp only [numAt]
  have b0 := b 0 (by decide)
  have b1 := b 1 (by decide)
  have b2 := b 2 (by decide)
  have b3 := b 3 (by decide)
  have b4 := b 4 (by decide)
  have b5 := b 5 (by decide)
  have b6 := b 6 (by decide)
  have b7 := b 7 (by decide)
  rw [b0, b1, b2, b3, b4, b5, b6, b7]
  generalize (B.getD k 0).toNat = x at h ⊢
  simp only [Nat.reducePow]
  omega

end Go.Proofs.YtkobcgemllcfoaaDoor.Ix
