/-
  DERIVED. GIVEN WITH THE SEED: THE CARDS: each row of YtoablpaehhjchaaGreatDoorRows.lean that lists a variable, with what it lists TIED to the program's text (the seventh form; the later family's looks); each row that meets fmt, with fmt's text TOLD by the authors' own Lean function (tested against real Go, not proved from fmt's source: count such statements apart). THE CARD IS WHAT COUNTS. Prove the row's statement (the work); the ties are given (YtoablpaehhjchaaGreatDoorTie.lean); close each card by the builder's one call (the guide's Derived/Test/ToyasCard.lean, 'card_holds'). Laid BY PROGRAM, IN A SANDBOX (cutbox-door.mjs). By AI agents, Wed Nov 11 2026. No macro, syntax, notation, axiom, sorry.
-/
import Derived.Test.YtoablpaehhjchaaGreatDoorRows
import GoSem.ClaimSeven
namespace Go.Proofs.YtoablpaehhjchaaGreatDoor
namespace Rows

/-- THE TIED CARD OF 'inkstandlaw08.XrefWrites'. -/
def xrefWritesCard : Claim7 := { stood := { row := xrefWritesRow, standIns := [], harness := (true, "446b31004ce7b74622472202d60bd7d952636c0f56d22c701ed80e7b86ba40c2"), looks := false }, kinds := [], alts := [], laidByText := true, laidKinds := [.data, .data, .data], laidTests := true, laidLooks := .later }
def XrefWritesCardSaid : Prop := Claim7.holds Tryz.pinned (.plain (OpenSpec.ofChange xrefWritesSpec)) xrefWritesCard

/-- THE TIED CARD OF 'inkstandlaw09.StorePuts'. -/
def storePutsCard : Claim7 := { stood := { row := storePutsRow, standIns := [], harness := (true, "446b31004ce7b74622472202d60bd7d952636c0f56d22c701ed80e7b86ba40c2"), looks := false }, kinds := [], alts := [], laidByText := true, laidKinds := [.data, .data, .data, .data, .pinned], laidTests := true, laidLooks := .later }
def StorePutsCardSaid : Prop := Claim7.holds Tryz.pinned (.plain (OpenSpec.ofChange storePutsSpec)) storePutsCard

/-- THE TIED CARD OF 'inkstandlaw09.StoreRefs'. -/
def storeRefsCard : Claim7 := { stood := { row := storeRefsRow, standIns := [], harness := (true, "446b31004ce7b74622472202d60bd7d952636c0f56d22c701ed80e7b86ba40c2"), looks := false }, kinds := [], alts := [], laidByText := true, laidKinds := [.data, .data, .data, .data, .pinned], laidTests := true, laidLooks := .later }
def StoreRefsCardSaid : Prop := Claim7.holds Tryz.pinned (.plain (OpenSpec.ofChange storeRefsSpec)) storeRefsCard

/-- THE SECOND FORM's CARD OF 'inkstandlaw08.XrefWrites'. -/
def xrefWritesUptoCard : Claim7 := { stood := { row := xrefWritesUptoRow, standIns := [], harness := (true, "446b31004ce7b74622472202d60bd7d952636c0f56d22c701ed80e7b86ba40c2"), looks := false }, kinds := [], alts := [], laidByText := true, laidKinds := [.data, .data, .data], laidTests := true, laidLooks := .later }
def XrefWritesUptoCardSaid : Prop := Claim7.holds Tryz.pinned (.plain (OpenSpec.upto xrefWritesSpec)) xrefWritesUptoCard

/-- THE SECOND FORM's CARD OF 'inkstandlaw09.StorePuts'. -/
def storePutsUptoCard : Claim7 := { stood := { row := storePutsUptoRow, standIns := [], harness := (true, "446b31004ce7b74622472202d60bd7d952636c0f56d22c701ed80e7b86ba40c2"), looks := false }, kinds := [], alts := [], laidByText := true, laidKinds := [.data, .data, .data, .data, .pinned], laidTests := true, laidLooks := .later }
def StorePutsUptoCardSaid : Prop := Claim7.holds Tryz.pinned (.plain (OpenSpec.upto storePutsSpec)) storePutsUptoCard

/-- THE SECOND FORM's CARD OF 'inkstandlaw09.StoreRefs'. -/
def storeRefsUptoCard : Claim7 := { stood := { row := storeRefsUptoRow, standIns := [], harness := (true, "446b31004ce7b74622472202d60bd7d952636c0f56d22c701ed80e7b86ba40c2"), looks := false }, kinds := [], alts := [], laidByText := true, laidKinds := [.data, .data, .data, .data, .pinned], laidTests := true, laidLooks := .later }
def StoreRefsUptoCardSaid : Prop := Claim7.holds Tryz.pinned (.plain (OpenSpec.upto storeRefsSpec)) storeRefsUptoCard
end Rows
end Go.Proofs.YtoablpaehhjchaaGreatDoor
