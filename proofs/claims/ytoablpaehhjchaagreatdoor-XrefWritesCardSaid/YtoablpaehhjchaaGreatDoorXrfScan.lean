/-
  The reference's Merge as mathematics: the least number above the last, again and again.
-/
import Derived.Test.YtoablpaehhjchaaGreatDoorXrfM
namespace Go.Proofs.YtoablpaehhjchaaGreatDoor.Rx
set_option linter.unusedVariables false

def Above (lo : Option Int) (n : Int) : Prop := match lo with
  | none => True
  | some x => x < n
instance (lo : Option Int) (n : Int) : Decidable (Above lo n) := by cases lo <;> unfold Above <;> infer_instance
/-- The number of the last of the first j. -/
def lastO (m : List Xent) : Nat → Option Int
  | 0 => none
  | j + 1 => m[j]?.map (·.n)
/-- What the scan has found among the first i. -/
def Scan (all : List Xent) (lo : Option Int) (i : Nat) (k : Int) : Prop :=
  (k = -1 ∧ ∀ q (h : q < all.length), q < i → ¬ Above lo all[q].n) ∨
  ∃ q, ∃ (h : q < all.length), k = (q : Int) ∧ q < i ∧ Above lo all[q].n ∧ ∀ q' (h' : q' < all.length), q' < i → Above lo all[q'].n → all[q].n ≤ all[q'].n ∧ (all[q'].n = all[q].n → q ≤ q')
theorem scan_start (all : List Xent) (lo : Option Int) : Scan all lo 0 (-1) := .inl ⟨rfl, fun _ _ h => absurd h (Nat.not_lt_zero _)⟩
theorem scan_skip {all : List Xent} {lo : Option Int} {i : Nat} {k : Int} (h : Scan all lo i k) (hi : i < all.length) (hn : ¬ Above lo all[i].n ∨ ∃ q, ∃ (hq : q < all.length), k = (q : Int) ∧ all[q].n ≤ all[i].n) : Scan all lo (i + 1) k := by
  rcases h with ⟨rfl, h1⟩ | ⟨q, hq, rfl, hqi, ha, h1⟩
  · rcases hn with hn | ⟨q, _, hk, _⟩
    · refine .inl ⟨rfl, fun q h hq => ?_⟩
      rcases Nat.lt_or_ge q i with h2 | h2
      · exact h1 q h h2
      · obtain rfl : q = i := by omega
        exact hn
    · omega
  · refine .inr ⟨q, hq, rfl, by omega, ha, fun q' h' hq' ha' => ?_⟩
    rcases Nat.lt_or_ge q' i with h2 | h2
    · exact h1 q' h' h2 ha'
    · obtain rfl : q' = i := by omega
      rcases hn with hn | ⟨q2, _, hk, hle⟩
      · exact absurd ha' hn
      · obtain rfl : q2 = q := by omega
        exact ⟨hle, fun _ => by omega⟩
theorem scan_take {all : List Xent} {lo : Option Int} {i : Nat} {k : Int} (h : Scan all lo i k) (hi : i < all.length) (ha : Above lo all[i].n) (hn : k = -1 ∨ ∃ q, ∃ (hq : q < all.length), k = (q : Int) ∧ all[i].n < all[q].n) : Scan all lo (i + 1) (i : Int) := by
  refine .inr ⟨i, hi, rfl, by omega, ha, fun q' h' hq' ha' => ?_⟩
  rcases Nat.lt_or_ge q' i with h2 | h2
  · rcases h with ⟨rfl, h1⟩ | ⟨q, hq, rfl, hqi, hqa, h1⟩
    · exact absurd ha' (h1 q' h' h2)
    · rcases hn with hn | ⟨q2, _, hk, hlt⟩
      · omega
      · obtain rfl : q2 = q := by omega
        have := h1 q' h' h2 ha'
        exact ⟨by omega, fun e => by omega⟩
  · obtain rfl : q' = i := by omega
    exact ⟨Int.le_refl _, fun _ => Nat.le_refl _⟩
theorem scan_k {all : List Xent} {lo : Option Int} {i : Nat} {k : Int} (h : Scan all lo i k) : k = -1 ∨ ∃ q, ∃ (hq : q < all.length), k = (q : Int) := by
  rcases h with ⟨rfl, _⟩ | ⟨q, hq, rfl, _⟩
  · exact .inl rfl
  · exact .inr ⟨q, hq, rfl⟩
theorem lastO_at (m : List Xent) (j : Nat) (h : j < m.length) : lastO m (j + 1) = some m[j].n := by simp [lastO, h]
theorem above_at {m : List Xent} (hr : Rise m) {j : Nat} (hj : j < m.length) : Above (lastO m j) m[j].n := by
  cases j with
  | zero => trivial
  | succ j => rw [lastO_at m j (by omega)]; exact rise_get hr (Nat.lt_succ_self j) hj
theorem scan_none {all m : List Xent} (hm : IsM all m) {j : Nat} (hj : j ≤ m.length) (h : Scan all (lastO m j) all.length (-1)) : j = m.length := by
  rcases h with ⟨_, h1⟩ | ⟨q, hq, hk, _⟩
  · by_cases hlt : j < m.length
    · have ha := above_at hm.1 hlt
      obtain ⟨q, hq, he⟩ := List.getElem_of_mem (isM_mem hm (List.getElem_mem hlt))
      exact absurd (by rw [he]; exact ha) (h1 q hq hq)
    · omega
  · omega
theorem first_at {all : List Xent} {q : Nat} (hq : q < all.length) (h : ∀ q' (h' : q' < all.length), q' < q → all[q'].n ≠ all[q].n) : first all all[q].n = some all[q] := by
  unfold first
  rw [List.find?_eq_some_iff_getElem]
  refine ⟨by simp, q, hq, rfl, fun j hj => ?_⟩
  simpa using h j (by omega) hj
theorem scan_some {all m : List Xent} (hm : IsM all m) {j q : Nat} (hj : j ≤ m.length) (hq : q < all.length) (h : Scan all (lastO m j) all.length (q : Int)) : ∃ (hlt : j < m.length), m[j] = all[q] := by
  rcases h with ⟨hk, _⟩ | ⟨q2, hq2, hk, _, ha, h1⟩
  · omega
  obtain rfl : q2 = q := by omega
  have hmem : all[q2] ∈ m := by
    rw [hm.2]
    refine first_at hq2 fun q' h' hlt e => ?_
    have := (h1 q' h' h' (by rw [e]; exact ha)).2 e
    omega
  obtain ⟨i, hi, he⟩ := List.getElem_of_mem hmem
  have hij : j ≤ i := by
    cases j with
    | zero => exact Nat.zero_le _
    | succ j =>
      rw [lastO_at m j (by omega)] at ha
      have ha : m[j].n < all[q2].n := ha
      rcases Nat.lt_or_ge j i with h2 | h2
      · exact h2
      · rw [← he] at ha
        rcases Nat.lt_or_ge i j with h3 | h3
        · have := rise_get hm.1 h3 (by omega)
          omega
        · obtain rfl : i = j := by omega
          omega
  have hlt : j < m.length := by omega
  refine ⟨hlt, ?_⟩
  have haj := above_at hm.1 hlt
  obtain ⟨q', hq', he'⟩ := List.getElem_of_mem (isM_mem hm (List.getElem_mem hlt))
  have hle := (h1 q' hq' hq' (by rw [he']; exact haj)).1
  rw [he', ← he] at hle
  rcases Nat.lt_or_ge j i with h3 | h3
  · have := rise_get hm.1 h3 hi
    omega
  · obtain rfl : i = j := by omega
    exact he

/-- Entries with one ahead of all older ones. -/
def insM (e : Xent) : List Xent → List Xent
  | [] => [e]
  | x :: xs => if e.n < x.n then e :: x :: xs else if e.n = x.n then e :: xs else x :: insM e xs
theorem insM_mem (e : Xent) : ∀ {m : List Xent}, Rise m → ∀ y, y ∈ insM e m ↔ y = e ∨ (y ∈ m ∧ y.n ≠ e.n)
  | [], _, y => by simp [insM]
  | x :: xs, h, y => by
    have hp := List.pairwise_cons.1 h
    unfold insM
    split
    · rename_i hlt
      constructor
      · intro hy
        rcases List.mem_cons.1 hy with rfl | hy
        · exact .inl rfl
        · refine .inr ⟨hy, fun e1 => ?_⟩
          rcases List.mem_cons.1 hy with rfl | hy
          · omega
          · have := hp.1 y hy; omega
      · rintro (rfl | ⟨hy, _⟩)
        · exact List.mem_cons_self
        · exact List.mem_cons_of_mem _ hy
    · split
      · rename_i heq
        constructor
        · intro hy
          rcases List.mem_cons.1 hy with rfl | hy
          · exact .inl rfl
          · exact .inr ⟨List.mem_cons_of_mem _ hy, fun e1 => by have := hp.1 y hy; omega⟩
        · rintro (rfl | ⟨hy, hne⟩)
          · exact List.mem_cons_self
          · rcases List.mem_cons.1 hy with rfl | hy
            · exact absurd heq.symm hne
            · exact List.mem_cons_of_mem _ hy
      · rename_i hn1 hn2
        rw [List.mem_cons, insM_mem e hp.2 y, List.mem_cons]
        constructor
        · rintro (rfl | rfl | ⟨hy, hne⟩)
          · exact .inr ⟨.inl rfl, fun e1 => hn2 e1.symm⟩
          · exact .inl rfl
          · exact .inr ⟨.inr hy, hne⟩
        · rintro (rfl | ⟨rfl | hy, hne⟩)
          · exact .inr (.inl rfl)
          · exact .inl rfl
          · exact .inr (.inr ⟨hy, hne⟩)
theorem insM_rise (e : Xent) : ∀ {m : List Xent}, Rise m → Rise (insM e m)
  | [], _ => by simp [insM, Rise]
  | x :: xs, h => by
    have hp := List.pairwise_cons.1 h
    unfold insM
    split
    · rename_i hlt
      refine List.pairwise_cons.2 ⟨fun y hy => ?_, h⟩
      rcases List.mem_cons.1 hy with rfl | hy
      · exact hlt
      · have := hp.1 y hy; omega
    · split
      · rename_i heq
        exact List.pairwise_cons.2 ⟨fun y hy => by have := hp.1 y hy; omega, hp.2⟩
      · refine List.pairwise_cons.2 ⟨fun y hy => ?_, insM_rise e hp.2⟩
        rcases (insM_mem e hp.2 y).1 hy with rfl | ⟨hy, _⟩
        · omega
        · exact hp.1 y hy
theorem isM_ex : ∀ all : List Xent, ∃ m, IsM all m
  | [] => ⟨[], List.Pairwise.nil, fun e => by simp [first]⟩
  | e :: l => by
    obtain ⟨m, hm⟩ := isM_ex l
    refine ⟨insM e m, insM_rise e hm.1, fun y => ?_⟩
    rw [insM_mem e hm.1, first_cons, hm.2]
    constructor
    · rintro (rfl | ⟨h, hne⟩)
      · rw [if_pos rfl]
      · rw [if_neg (fun h => hne h.symm)]; exact h
    · intro h
      split at h
      · exact .inl (Option.some.inj h).symm
      · rename_i hne
        exact .inr ⟨h, fun e1 => hne e1.symm⟩

end Go.Proofs.YtoablpaehhjchaaGreatDoor.Rx
