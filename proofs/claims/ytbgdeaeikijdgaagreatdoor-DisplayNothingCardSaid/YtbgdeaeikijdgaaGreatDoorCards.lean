/-
  DERIVED. GIVEN WITH THE SEED: THE CARDS: each row of YtbgdeaeikijdgaaGreatDoorRows.lean that lists a variable, with what it lists TIED to the program's text (the seventh form; the later family's looks); each row that meets fmt, with fmt's text TOLD by the authors' own Lean function (tested against real Go, not proved from fmt's source: count such statements apart). THE CARD IS WHAT COUNTS. Prove the row's statement (the work); the ties are given (YtbgdeaeikijdgaaGreatDoorTie.lean); close each card by the builder's one call (the guide's Derived/Test/ToyasCard.lean, 'card_holds'). Laid BY PROGRAM, IN A SANDBOX (cutbox-door.mjs). By AI agents, Wed Nov 11 2026. No macro, syntax, notation, axiom, sorry.
-/
import Derived.Test.YtbgdeaeikijdgaaGreatDoorRows
import GoSem.ClaimSeven
namespace Go.Proofs.YtbgdeaeikijdgaaGreatDoor
namespace Rows

/-- THE TIED CARD OF 'inkstandlaw12.DisplaySame'. -/
def displaySameCard : Claim7 := { stood := { row := displaySameRow, standIns := [], harness := (true, "3f59eadcac933392b1de2833d2b0998962bd2e6c2a99697d3d02c23a5a2e2c14"), looks := true }, kinds := [], alts := [], laidByText := true, laidKinds := [.data], laidTests := true, laidLooks := .later }
def DisplaySameCardSaid : Prop := Claim7.holds Tryz.pinned (.plain (OpenSpec.ofChange displaySameSpec)) displaySameCard

/-- THE TIED CARD OF 'inkstandlaw12.DisplayMoves'. -/
def displayMovesCard : Claim7 := { stood := { row := displayMovesRow, standIns := [], harness := (true, "3f59eadcac933392b1de2833d2b0998962bd2e6c2a99697d3d02c23a5a2e2c14"), looks := true }, kinds := [], alts := [], laidByText := true, laidKinds := [.data], laidTests := true, laidLooks := .later }
def DisplayMovesCardSaid : Prop := Claim7.holds Tryz.pinned (.plain (OpenSpec.ofChange displayMovesSpec)) displayMovesCard

/-- THE TIED CARD OF 'inkstandlaw12.DisplayColours'. -/
def displayColoursCard : Claim7 := { stood := { row := displayColoursRow, standIns := [], harness := (true, "3f59eadcac933392b1de2833d2b0998962bd2e6c2a99697d3d02c23a5a2e2c14"), looks := true }, kinds := [], alts := [], laidByText := true, laidKinds := [.data, .data, .data, .data, .data, .pinned], laidTests := true, laidLooks := .later }
def DisplayColoursCardSaid : Prop := Claim7.holds Tryz.pinned (.plain (OpenSpec.ofChange displayColoursSpec)) displayColoursCard

/-- THE TIED CARD OF 'inkstandlaw12.DisplayNothing'. -/
def displayNothingCard : Claim7 := { stood := { row := displayNothingRow, standIns := [], harness := (true, "3f59eadcac933392b1de2833d2b0998962bd2e6c2a99697d3d02c23a5a2e2c14"), looks := true }, kinds := [], alts := [], laidByText := true, laidKinds := [.data], laidTests := true, laidLooks := .later }
def DisplayNothingCardSaid : Prop := Claim7.holds Tryz.pinned (.plain (OpenSpec.ofChange displayNothingSpec)) displayNothingCard

/-- THE SECOND FORM's CARD OF 'inkstandlaw12.DisplaySame'. -/
def displaySameUptoCard : Claim7 := { stood := { row := displaySameUptoRow, standIns := [], harness := (true, "3f59eadcac933392b1de2833d2b0998962bd2e6c2a99697d3d02c23a5a2e2c14"), looks := true }, kinds := [], alts := [], laidByText := true, laidKinds := [.data], laidTests := true, laidLooks := .later }
def DisplaySameUptoCardSaid : Prop := Claim7.holds Tryz.pinned (.plain (OpenSpec.upto displaySameSpec)) displaySameUptoCard

/-- THE SECOND FORM's CARD OF 'inkstandlaw12.DisplayMoves'. -/
def displayMovesUptoCard : Claim7 := { stood := { row := displayMovesUptoRow, standIns := [], harness := (true, "3f59eadcac933392b1de2833d2b0998962bd2e6c2a99697d3d02c23a5a2e2c14"), looks := true }, kinds := [], alts := [], laidByText := true, laidKinds := [.data], laidTests := true, laidLooks := .later }
def DisplayMovesUptoCardSaid : Prop := Claim7.holds Tryz.pinned (.plain (OpenSpec.upto displayMovesSpec)) displayMovesUptoCard

/-- THE SECOND FORM's CARD OF 'inkstandlaw12.DisplayColours'. -/
def displayColoursUptoCard : Claim7 := { stood := { row := displayColoursUptoRow, standIns := [], harness := (true, "3f59eadcac933392b1de2833d2b0998962bd2e6c2a99697d3d02c23a5a2e2c14"), looks := true }, kinds := [], alts := [], laidByText := true, laidKinds := [.data, .data, .data, .data, .data, .pinned], laidTests := true, laidLooks := .later }
def DisplayColoursUptoCardSaid : Prop := Claim7.holds Tryz.pinned (.plain (OpenSpec.upto displayColoursSpec)) displayColoursUptoCard

/-- THE SECOND FORM's CARD OF 'inkstandlaw12.DisplayNothing'. -/
def displayNothingUptoCard : Claim7 := { stood := { row := displayNothingUptoRow, standIns := [], harness := (true, "3f59eadcac933392b1de2833d2b0998962bd2e6c2a99697d3d02c23a5a2e2c14"), looks := true }, kinds := [], alts := [], laidByText := true, laidKinds := [.data], laidTests := true, laidLooks := .later }
def DisplayNothingUptoCardSaid : Prop := Claim7.holds Tryz.pinned (.plain (OpenSpec.upto displayNothingSpec)) displayNothingUptoCard
end Rows
end Go.Proofs.YtbgdeaeikijdgaaGreatDoor
