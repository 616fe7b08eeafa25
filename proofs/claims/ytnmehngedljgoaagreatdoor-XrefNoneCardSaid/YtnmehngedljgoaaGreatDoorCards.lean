/-
  DERIVED. GIVEN WITH THE SEED: THE CARDS: each row of YtnmehngedljgoaaGreatDoorRows.lean that lists a variable, with what it lists TIED to the program's text (the seventh form; the later family's looks); each row that meets fmt, with fmt's text TOLD by the authors' own Lean function (tested against real Go, not proved from fmt's source: count such statements apart). THE CARD IS WHAT COUNTS. Prove the row's statement (the work); the ties are given (YtnmehngedljgoaaGreatDoorTie.lean); close each card by the builder's one call (the guide's Derived/Test/ToyasCard.lean, 'card_holds'). Laid BY PROGRAM, IN A SANDBOX (cutbox-door.mjs). By AI agents, Wed Nov 11 2026. No macro, syntax, notation, axiom, sorry.
-/
import Derived.Test.YtnmehngedljgoaaGreatDoorRows
import GoSem.ClaimSeven
namespace Go.Proofs.YtnmehngedljgoaaGreatDoor
namespace Rows

/-- THE TIED CARD OF 'inkstandlaw05.WriteBack'. -/
def writeBackCard : Claim7 := { stood := { row := writeBackRow, standIns := [], harness := (true, "fe2de88155ab60e66c03774d18277defeba3c82bde972dc266adde9c89e66e69"), looks := false }, kinds := [], alts := [], laidByText := true, laidKinds := [.data, .data, .data, .data, .pinned], laidTests := true, laidLooks := .later }
def WriteBackCardSaid : Prop := Claim7.holds Tryz.pinned (.plain (OpenSpec.ofChange writeBackSpec)) writeBackCard

/-- THE TIED CARD OF 'inkstandlaw08.XrefWrites'. -/
def xrefWritesCard : Claim7 := { stood := { row := xrefWritesRow, standIns := [], harness := (true, "fe2de88155ab60e66c03774d18277defeba3c82bde972dc266adde9c89e66e69"), looks := false }, kinds := [], alts := [], laidByText := true, laidKinds := [.data, .data, .data], laidTests := true, laidLooks := .later }
def XrefWritesCardSaid : Prop := Claim7.holds Tryz.pinned (.plain (OpenSpec.ofChange xrefWritesSpec)) xrefWritesCard

/-- THE TIED CARD OF 'inkstandlaw08.XrefBack'. -/
def xrefBackCard : Claim7 := { stood := { row := xrefBackRow, standIns := [], harness := (true, "fe2de88155ab60e66c03774d18277defeba3c82bde972dc266adde9c89e66e69"), looks := false }, kinds := [], alts := [], laidByText := true, laidKinds := [.data, .data, .data], laidTests := true, laidLooks := .later }
def XrefBackCardSaid : Prop := Claim7.holds Tryz.pinned (.plain (OpenSpec.ofChange xrefBackSpec)) xrefBackCard

/-- THE TIED CARD OF 'inkstandlaw08.XrefMerges'. -/
def xrefMergesCard : Claim7 := { stood := { row := xrefMergesRow, standIns := [], harness := (true, "fe2de88155ab60e66c03774d18277defeba3c82bde972dc266adde9c89e66e69"), looks := false }, kinds := [], alts := [], laidByText := true, laidKinds := [.data, .data, .data], laidTests := true, laidLooks := .later }
def XrefMergesCardSaid : Prop := Claim7.holds Tryz.pinned (.plain (OpenSpec.ofChange xrefMergesSpec)) xrefMergesCard

/-- THE TIED CARD OF 'inkstandlaw08.XrefStarts'. -/
def xrefStartsCard : Claim7 := { stood := { row := xrefStartsRow, standIns := [], harness := (true, "fe2de88155ab60e66c03774d18277defeba3c82bde972dc266adde9c89e66e69"), looks := false }, kinds := [], alts := [], laidByText := true, laidKinds := [.data, .data, .data], laidTests := true, laidLooks := .later }
def XrefStartsCardSaid : Prop := Claim7.holds Tryz.pinned (.plain (OpenSpec.ofChange xrefStartsSpec)) xrefStartsCard

/-- THE TIED CARD OF 'inkstandlaw08.XrefNone'. -/
def xrefNoneCard : Claim7 := { stood := { row := xrefNoneRow, standIns := [], harness := (true, "fe2de88155ab60e66c03774d18277defeba3c82bde972dc266adde9c89e66e69"), looks := false }, kinds := [], alts := [], laidByText := true, laidKinds := [.data, .data, .data], laidTests := true, laidLooks := .later }
def XrefNoneCardSaid : Prop := Claim7.holds Tryz.pinned (.plain (OpenSpec.ofChange xrefNoneSpec)) xrefNoneCard

/-- THE SECOND FORM's CARD OF 'inkstandlaw05.WriteBack'. -/
def writeBackUptoCard : Claim7 := { stood := { row := writeBackUptoRow, standIns := [], harness := (true, "fe2de88155ab60e66c03774d18277defeba3c82bde972dc266adde9c89e66e69"), looks := false }, kinds := [], alts := [], laidByText := true, laidKinds := [.data, .data, .data, .data, .pinned], laidTests := true, laidLooks := .later }
def WriteBackUptoCardSaid : Prop := Claim7.holds Tryz.pinned (.plain (OpenSpec.upto writeBackSpec)) writeBackUptoCard

/-- THE SECOND FORM's CARD OF 'inkstandlaw08.XrefWrites'. -/
def xrefWritesUptoCard : Claim7 := { stood := { row := xrefWritesUptoRow, standIns := [], harness := (true, "fe2de88155ab60e66c03774d18277defeba3c82bde972dc266adde9c89e66e69"), looks := false }, kinds := [], alts := [], laidByText := true, laidKinds := [.data, .data, .data], laidTests := true, laidLooks := .later }
def XrefWritesUptoCardSaid : Prop := Claim7.holds Tryz.pinned (.plain (OpenSpec.upto xrefWritesSpec)) xrefWritesUptoCard

/-- THE SECOND FORM's CARD OF 'inkstandlaw08.XrefBack'. -/
def xrefBackUptoCard : Claim7 := { stood := { row := xrefBackUptoRow, standIns := [], harness := (true, "fe2de88155ab60e66c03774d18277defeba3c82bde972dc266adde9c89e66e69"), looks := false }, kinds := [], alts := [], laidByText := true, laidKinds := [.data, .data, .data], laidTests := true, laidLooks := .later }
def XrefBackUptoCardSaid : Prop := Claim7.holds Tryz.pinned (.plain (OpenSpec.upto xrefBackSpec)) xrefBackUptoCard

/-- THE SECOND FORM's CARD OF 'inkstandlaw08.XrefMerges'. -/
def xrefMergesUptoCard : Claim7 := { stood := { row := xrefMergesUptoRow, standIns := [], harness := (true, "fe2de88155ab60e66c03774d18277defeba3c82bde972dc266adde9c89e66e69"), looks := false }, kinds := [], alts := [], laidByText := true, laidKinds := [.data, .data, .data], laidTests := true, laidLooks := .later }
def XrefMergesUptoCardSaid : Prop := Claim7.holds Tryz.pinned (.plain (OpenSpec.upto xrefMergesSpec)) xrefMergesUptoCard

/-- THE SECOND FORM's CARD OF 'inkstandlaw08.XrefStarts'. -/
def xrefStartsUptoCard : Claim7 := { stood := { row := xrefStartsUptoRow, standIns := [], harness := (true, "fe2de88155ab60e66c03774d18277defeba3c82bde972dc266adde9c89e66e69"), looks := false }, kinds := [], alts := [], laidByText := true, laidKinds := [.data, .data, .data], laidTests := true, laidLooks := .later }
def XrefStartsUptoCardSaid : Prop := Claim7.holds Tryz.pinned (.plain (OpenSpec.upto xrefStartsSpec)) xrefStartsUptoCard

/-- THE SECOND FORM's CARD OF 'inkstandlaw08.XrefNone'. -/
def xrefNoneUptoCard : Claim7 := { stood := { row := xrefNoneUptoRow, standIns := [], harness := (true, "fe2de88155ab60e66c03774d18277defeba3c82bde972dc266adde9c89e66e69"), looks := false }, kinds := [], alts := [], laidByText := true, laidKinds := [.data, .data, .data], laidTests := true, laidLooks := .later }
def XrefNoneUptoCardSaid : Prop := Claim7.holds Tryz.pinned (.plain (OpenSpec.upto xrefNoneSpec)) xrefNoneUptoCard
end Rows
end Go.Proofs.YtnmehngedljgoaaGreatDoor
