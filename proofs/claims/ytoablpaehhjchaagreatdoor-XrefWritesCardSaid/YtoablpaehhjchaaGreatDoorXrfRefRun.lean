/-
  The reference's Write as mathematics: one entry behind the other; how a run is counted.
-/
import Derived.Test.YtoablpaehhjchaaGreatDoorXrfM
namespace Go.Proofs.YtoablpaehhjchaaGreatDoor.Rx
set_option linter.unusedVariables false

/-- The number of the entry ahead, if there is one. -/
def aheadO (l : List Xent) : Nat → Option Int
  | 0 => none
  | j + 1 => some ((l[j]?.map (·.n)).getD (-1))
theorem aheadO_at (l : List Xent) (j : Nat) (h : j < l.length) : aheadO l (j + 1) = some l[j].n := by simp [aheadO, h]
theorem wr_step {l : List Xent} {acc : List UInt8} {j : Nat} (h : j < l.length) (hw : writeT l = acc ++ bodyT (aheadO l j) (l.drop j)) :
    writeT l = ((acc ++ (if aheadO l j = some (l[j].n - 1) then [] else headT l[j].n (runL (l.drop j)))) ++ lineT l[j]) ++ bodyT (aheadO l (j + 1)) (l.drop (j + 1)) := by
  rw [hw, body_get l j h, aheadO_at l j h]
  simp only [List.append_assoc]
theorem wr_start (l : List Xent) : writeT l = xrefT ++ bodyT (aheadO l 0) (l.drop 0) := rfl
theorem wr_end {l : List Xent} {acc : List UInt8} (hw : writeT l = acc ++ bodyT (aheadO l l.length) (l.drop l.length)) : writeT l = acc := by
  rw [hw, List.drop_length, bodyT, List.append_nil]
theorem run_first {l : List Xent} {j : Nat} (h : j < l.length) : runL (l.drop j) = 1 + runF (l[j].n + 1) (l.drop (j + 1)) := by
  rw [List.drop_eq_getElem_cons h, runL]; omega
theorem run_next {l : List Xent} {k : Nat} {n : Int} (h : k < l.length) (hk : l[k].n = n) : runF n (l.drop k) = 1 + runF (l[k].n + 1) (l.drop (k + 1)) := by
  rw [List.drop_eq_getElem_cons h, runF, if_pos hk, hk]; omega
theorem run_stop {l : List Xent} {k : Nat} {n : Int} (h : k < l.length) (hk : l[k].n ≠ n) : runF n (l.drop k) = 0 := by
  rw [List.drop_eq_getElem_cons h, runF, if_neg hk]
theorem run_out (l : List Xent) (n : Int) : runF n (l.drop l.length) = 0 := by
  rw [List.drop_length]; rfl

end Go.Proofs.YtoablpaehhjchaaGreatDoor.Rx
