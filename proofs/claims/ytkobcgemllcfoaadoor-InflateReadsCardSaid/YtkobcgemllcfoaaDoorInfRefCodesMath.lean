/-
  Codes, length by length: what is known within a round.
-/
import Derived.Test.YtkobcgemllcfoaaDoorInfMath
namespace Go.Proofs.YtkobcgemllcfoaaDoor.Ix
set_option linter.unusedSimpArgs false
set_option linter.unusedVariables false

/-- The next code, the codes that are known, and how many of one bit were met: within the k-th round, ahead of the i-th length. -/
def rNext (L : List Nat) (k i : Nat) : Nat := fst L k + cnt (L.take i) k
def rOut (L : List Nat) (k i j : Nat) : Int := if L.getD j 0 ≠ 0 ∧ (L.getD j 0 < k ∨ L.getD j 0 = k ∧ j < i) then (code L j : Nat) else 0
def rSeen (L : List Nat) (k i : Nat) : Nat := if k ≤ 1 then cnt (L.take i) 1 else cnt L 1
theorem rNext_start (L : List Nat) (k : Nat) (h : 1 ≤ k) : rNext L k 0 = 2 * beh L (k - 1) := by
  unfold rNext fst
  rw [if_neg (by omega)]
  simp [cnt]
theorem rNext_end (L : List Nat) (k : Nat) (h : 1 ≤ k) : rNext L k L.length = beh L k := by
  obtain ⟨m, rfl⟩ : ∃ m, k = m + 1 := ⟨k - 1, by omega⟩
  unfold rNext
  rw [List.take_length, beh_succ]
theorem rNext_skip (L : List Nat) (k i : Nat) (h : i < L.length) (hk : L[i] ≠ k) : rNext L k (i + 1) = rNext L k i := by
  unfold rNext
  rw [cnt_take_succ L i h, if_neg hk]; rfl
theorem rNext_step (L : List Nat) (k i : Nat) (h : i < L.length) (hk : L[i] = k) : rNext L k (i + 1) = rNext L k i + 1 := by
  unfold rNext
  rw [cnt_take_succ L i h, if_pos hk]; rfl
theorem rNext_le (L : List Nat) (k i : Nat) (h : 1 ≤ k) (hi : i ≤ L.length) : rNext L k i ≤ beh L k := by
  obtain ⟨m, rfl⟩ : ∃ m, k = m + 1 := ⟨k - 1, by omega⟩
  unfold rNext
  rw [beh_succ]
  have := cnt_take_le L i (m + 1)
  omega
theorem getD_at (L : List Nat) (i : Nat) (h : i < L.length) : L.getD i 0 = L[i] := by simp [List.getD, h]
theorem rOut_start (L : List Nat) (j : Nat) : rOut L 1 0 j = 0 := by
  unfold rOut
  rw [if_neg]
  omega
theorem rOut_skip (L : List Nat) (k i : Nat) (h : i < L.length) (hk : L[i] ≠ k) : rOut L k i = rOut L k (i + 1) := by
  funext j
  unfold rOut
  by_cases e : j = i
  · subst e
    rw [getD_at L j h]
    congr 1
    apply propext
    omega
  · congr 1
    apply propext
    omega
theorem rOut_step (L : List Nat) (k i : Nat) (h : i < L.length) (hk : L[i] = k) (h1 : 1 ≤ k) : (fun j => if j = i then ((rNext L k i : Nat) : Int) else rOut L k i j) = rOut L k (i + 1) := by
  funext j
  have hg := getD_at L i h
  by_cases e : j = i
  · subst e
    unfold rOut rNext code
    rw [hg, if_pos rfl, if_pos (by omega), if_neg (by omega), hk]
  · unfold rOut
    rw [if_neg e]
    congr 1
    apply propext
    omega
theorem rOut_round (L : List Nat) (k j : Nat) (hj : j < L.length) : rOut L k L.length j = rOut L (k + 1) 0 j := by
  unfold rOut
  congr 1
  apply propext
  omega
theorem rOut_end (L : List Nat) (h : ∀ x ∈ L, x ≤ 15) (j : Nat) (hj : j < L.length) : rOut L 16 0 j = (code L j : Nat) := by
  unfold rOut
  have h1 := h _ (List.getElem_mem hj)
  rw [getD_at L j hj]
  by_cases e : L[j] = 0
  · rw [if_neg (by omega)]
    unfold code
    rw [getD_at L j hj, if_pos e]; rfl
  · rw [if_pos (by omega)]
theorem three (k : Nat) (hk : 2 ≤ k) : ∀ L : List Nat, cnt L 0 + cnt L 1 + cnt L k ≤ L.length
  | [] => by simp [cnt]
  | x :: r => by
    have ih := three k hk r
    unfold cnt at *
    rw [List.count_cons, List.count_cons, List.count_cons, List.length_cons]
    by_cases h0 : x = 0
    · subst h0
      simp only [BEq.rfl, if_true]
      rw [if_neg (by simp), if_neg (by simp; omega)]; omega
    · by_cases h1 : x = 1
      · subst h1
        simp only [BEq.rfl, if_true]
        rw [if_neg (by simp), if_neg (by simp; omega)]; omega
      · rw [if_neg (by simpa using h0), if_neg (by simpa using h1)]
        split <;> omega
theorem cnt_pos (L : List Nat) (i : Nat) (h : i < L.length) : 1 ≤ cnt L L[i] := by
  have := cnt_take_lt L i h
  omega
theorem zero_one (L : List Nat) : cnt L 0 + cnt L 1 ≤ L.length := by
  have := three 2 (Nat.le_refl _) L
  omega
theorem used_pos (L : List Nat) (i : Nat) (h : i < L.length) (hk : L[i] ≠ 0) : 1 ≤ used L := by
  unfold used
  have h1 := cnt_pos L i h
  by_cases e : L[i] = 1
  · rw [e] at h1
    have := zero_one L
    omega
  · have := three L[i] (by omega) L
    omega
/-- Only one length, and it isn't 1: none is 1. -/
theorem one_else (L : List Nat) (i : Nat) (h : i < L.length) (hk : 2 ≤ L[i]) (h1 : used L = 1) : cnt L 1 = 0 := by
  have h2 := cnt_pos L i h
  have := three L[i] hk L
  unfold used at h1
  omega
theorem not_tree (L : List Nat) (i : Nat) (h : i < L.length) (k : Nat) (hk : L[i] = k) (h1 : 1 ≤ k) (h15 : k ≤ 15) (hb : 2 ^ k ≤ rNext L k i) : isTree L = false := by
  have hc := code_lt L i h (by omega)
  have he : code L i = rNext L k i := by
    unfold code rNext
    rw [getD_at L i h, if_neg (by omega), hk]
  rw [he, hk] at hc
  have hw : whole L = false := by
    cases hw : whole L with
    | false => rfl
    | true =>
      have := beh_fits hw k h15
      omega
  have hu := used_pos L i h (by omega)
  unfold isTree lack
  rw [hw, Bool.false_or, show (used L == 0) = false by rw [beq_eq_false_iff_ne]; omega, Bool.false_or, Bool.and_eq_false_iff]
  by_cases e : used L = 1
  · right
    rw [beq_eq_false_iff_ne]
    intro e1
    by_cases k1 : k = 1
    · subst k1
      have hf : fst L 1 = 0 := rfl
      have := cnt_take_lt L i h
      rw [hk] at this
      unfold rNext at hb
      rw [hf] at hb
      omega
    · have := one_else L i h (by omega) e
      omega
  · left
    rw [beq_eq_false_iff_ne]; exact e
theorem rSeen_skip (L : List Nat) (k i : Nat) (h : i < L.length) (hk : L[i] ≠ k) (h1 : 1 ≤ k) : rSeen L k (i + 1) = rSeen L k i := by
  unfold rSeen
  by_cases e : k ≤ 1
  · rw [if_pos e, if_pos e, cnt_take_succ L i h, if_neg (by omega)]; rfl
  · rw [if_neg e, if_neg e]
theorem rSeen_step (L : List Nat) (k i : Nat) (h : i < L.length) (hk : L[i] = k) (h1 : 1 ≤ k) (hu : used L = 1) : decide (k = 1) = decide (0 < rSeen L k (i + 1)) := by
  unfold rSeen
  by_cases e : k ≤ 1
  · rw [if_pos e, cnt_take_succ L i h, if_pos (by omega), decide_eq_true (by omega), decide_eq_true (by omega)]
  · rw [if_neg e, one_else L i h (by omega) hu, decide_eq_false (by omega)]; rfl
theorem rSeen_round (L : List Nat) (k : Nat) (h1 : 1 ≤ k) : rSeen L k L.length = rSeen L (k + 1) 0 := by
  unfold rSeen
  rw [if_neg (show ¬ k + 1 ≤ 1 by omega), List.take_length]
  split <;> rfl
theorem rSeen_start (L : List Nat) : rSeen L 1 0 = 0 := by simp [rSeen, cnt]
theorem rSeen_end (L : List Nat) : rSeen L 16 0 = cnt L 1 := rfl
/-- How many have a code, of the first ones. -/
def usedTo (L : List Nat) (i : Nat) : Nat := i - cnt (L.take i) 0
theorem usedTo_le (L : List Nat) (i : Nat) (h : i ≤ L.length) : cnt (L.take i) 0 ≤ i := by
  have := cnt_le (L.take i) 0
  rw [List.length_take] at this
  omega
theorem usedTo_skip (L : List Nat) (i : Nat) (h : i < L.length) (h0 : L[i] = 0) : usedTo L (i + 1) = usedTo L i := by
  unfold usedTo
  rw [cnt_take_succ L i h, if_pos h0]; omega
theorem usedTo_step (L : List Nat) (i : Nat) (h : i < L.length) (h0 : L[i] ≠ 0) : usedTo L (i + 1) = usedTo L i + 1 := by
  have := usedTo_le L i (by omega)
  unfold usedTo
  rw [cnt_take_succ L i h, if_neg h0]; omega
theorem usedTo_end (L : List Nat) : usedTo L L.length = used L := by unfold usedTo used; rw [List.take_length]
theorem tree_one (L : List Nat) (o : Bool) (ho : used L = 1 → o = decide (0 < cnt L 1)) (hu : used L = 1) : isTree L = (whole L || o) := by
  have h1 := ho hu
  have h2 := zero_one L
  unfold isTree lack
  rw [hu, h1]
  have h3 : cnt L 1 ≤ 1 := by unfold used at hu; omega
  have : (cnt L 1 == 1) = decide (0 < cnt L 1) := by
    rw [Bool.eq_iff_iff, beq_iff_eq, decide_eq_true_eq]; omega
  rw [this]; rfl
theorem tree_none (L : List Nat) (hu : used L = 0) : isTree L = true := by unfold isTree lack; rw [hu]; simp
theorem tree_more (L : List Nat) (h0 : used L ≠ 0) (h1 : used L ≠ 1) : isTree L = whole L := by
  unfold isTree lack
  rw [beq_eq_false_iff_ne.2 h0, beq_eq_false_iff_ne.2 h1]; simp

end Go.Proofs.YtkobcgemllcfoaaDoor.Ix
