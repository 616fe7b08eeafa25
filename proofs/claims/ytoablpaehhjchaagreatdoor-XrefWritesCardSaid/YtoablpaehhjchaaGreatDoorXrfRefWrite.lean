/-
  The reference of package xref: Write.
-/
import Derived.Test.YtoablpaehhjchaaGreatDoorXrfRefDigs
import Derived.Test.YtoablpaehhjchaaGreatDoorXrfRow
import Derived.BigGuard
namespace Go.Proofs.YtoablpaehhjchaaGreatDoor
open Go.RowKit Rx
set_option linter.unusedSimpArgs false
set_option linter.unusedVariables false

def prevN (l : List Xent) : Nat → Int
  | 0 => -1
  | j + 1 => (l[j]?.map (·.n)).getD (-1)
def prevO (l : List Xent) : Nat → Option Int
  | 0 => none
  | j + 1 => some ((l[j]?.map (·.n)).getD (-1))
theorem prevN_at (l : List Xent) (j : Nat) (h : j < l.length) : prevN l (j + 1) = l[j].n := by simp [prevN, h]
theorem prevO_at (l : List Xent) (j : Nat) (h : j < l.length) : prevO l (j + 1) = some l[j].n := by simp [prevO, h]
theorem ris_step {l : List Xent} {j : Nat} (h : j < l.length) (hr : risG (prevN l j) (l.drop j) = risG (-1) l) (h1 : prevN l j < l[j].n ∧ 0 ≤ l[j].off ∧ 0 ≤ l[j].gen) : risG (prevN l (j + 1)) (l.drop (j + 1)) = risG (-1) l := by
  rw [← hr, List.drop_eq_getElem_cons h, ris_good h1, prevN_at l j h]
theorem ris_stop {l : List Xent} {j : Nat} (h : j < l.length) (hr : risG (prevN l j) (l.drop j) = risG (-1) l) (h1 : ¬ (prevN l j < l[j].n ∧ 0 ≤ l[j].off ∧ 0 ≤ l[j].gen)) : writeE l = 1 :=
  writeE_one (by rw [← hr, List.drop_eq_getElem_cons h, ris_bad h1])
theorem too_step {l : List Xent} {j : Nat} (h : j < l.length) (hr : (l.take j).any tooG = false) (h1 : tooG l[j] = false) : (l.take (j + 1)).any tooG = false := by
  rw [List.take_succ_eq_append_getElem h, List.any_append, hr]; simp [h1]
theorem too_stop {l : List Xent} {j : Nat} (h : j < l.length) (h1 : tooG l[j] = true) : l.any tooG = true := List.any_eq_true.2 ⟨l[j], List.getElem_mem h, h1⟩
theorem writeV_bad {l : List Xent} (h : writeE l ≠ 0) : writeV l = [] := by unfold writeV; rw [if_neg h]

theorem ris_pair : ∀ {l : List Xent} {n : Int}, risG n l = true → l.Pairwise (fun a b => a.n < b.n)
  | [], _, _ => List.Pairwise.nil
  | e :: r, n, h => by
    obtain ⟨_, _, _, h4⟩ := ris_cons.1 h
    exact List.pairwise_cons.2 ⟨fun x hx => (ris_mem h4 x hx).1, ris_pair h4⟩
theorem ris_at {l : List Xent} (h : risG (-1) l = true) (j : Nat) (hj : j < l.length) : 0 ≤ l[j].n ∧ 0 ≤ l[j].off ∧ 0 ≤ l[j].gen := by
  have := ris_mem h l[j] (List.getElem_mem hj)
  omega
theorem ris_adj {l : List Xent} (h : risG (-1) l = true) (j : Nat) (hj : j + 1 < l.length) : l[j].n < l[j + 1].n :=
  List.pairwise_iff_getElem.1 (ris_pair h) j (j + 1) (by omega) hj (by omega)
theorem too_at {l : List Xent} (h : l.any tooG = false) (j : Nat) (hj : j < l.length) : l[j].off ≤ 9999999999 ∧ l[j].gen ≤ 99999 ∧ l[j].n < 4096 := by
  have h2 : tooG l[j] = false := by
    cases hb : tooG l[j] with
    | false => rfl
    | true => rw [List.any_eq_true.2 ⟨l[j], List.getElem_mem hj, hb⟩] at h; cases h
  unfold tooG at h2
  simp only [Bool.or_eq_false_iff, decide_eq_false_iff_not] at h2
  omega

/-- Entries that rise: what the first loop asks. -/
theorem ris_nop : True := trivial

end Go.Proofs.YtoablpaehhjchaaGreatDoor
