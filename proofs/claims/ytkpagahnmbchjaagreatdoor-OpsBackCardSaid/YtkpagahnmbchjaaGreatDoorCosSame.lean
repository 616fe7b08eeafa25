/-
  When package cos's Same says yes, part one: the places of each key's first entry; slices.EqualFunc over objects with a question that is known of all that stand in the first list.
-/
import Derived.Test.YtkpagahnmbchjaaGreatDoorCosIdxS
import Derived.Test.YtkpagahnmbchjaaGreatDoorCosGet
import Derived.Test.YtkpagahnmbchjaaGreatDoorCosD
namespace Go.Proofs.YtkpagahnmbchjaaGreatDoor
open Go.RowKit Cx

def arrO (l : List Ob) : Ob := .mk 5 0 0 ⟨#[]⟩ l []
theorem Lies.listOnly {R : Cells} {o : Ob} {h : Hd} (hl : Lies R o h) : Lies R (arrO o.l) ⟨h.p, h.c, none, 0⟩ := by
  cases hl with
  | mk k n f s l d h H E hk hl hlc hd hds hdc =>
    exact .mk 5 0 0 ⟨#[]⟩ l [] ⟨h.p, h.c, none, 0⟩ H E ⟨hk.1, Nat.zero_le _, Nat.zero_le _⟩ hl hlc (fun _ hi => absurd hi (Nat.not_lt_zero _)) (fun _ hi => absurd hi (Nat.not_lt_zero _)) (fun _ hi => absurd hi (Nat.not_lt_zero _))

end Go.Proofs.YtkpagahnmbchjaaGreatDoor
