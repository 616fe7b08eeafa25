/-
  DERIVED. GIVEN WITH THE SEED: THE CARDS: each row of YtdfgbdonnpbfcaaDoorRows.lean that lists a variable, with what it lists TIED to the program's text (the seventh form; the later family's looks); each row that meets fmt, with fmt's text TOLD by the authors' own Lean function (tested against real Go, not proved from fmt's source: count such statements apart). THE CARD IS WHAT COUNTS. Prove the row's statement (the work); the ties are given (YtdfgbdonnpbfcaaDoorTie.lean); close each card by the builder's one call (the guide's Derived/Test/ToyasCard.lean, 'card_holds'). Laid BY PROGRAM, IN A SANDBOX (cutbox-door.mjs). By AI agents, Wed Nov 11 2026. No macro, syntax, notation, axiom, sorry.
-/
import Derived.Test.YtdfgbdonnpbfcaaDoorRows
import GoSem.ClaimSeven
namespace Go.Proofs.YtdfgbdonnpbfcaaDoor
namespace Rows

/-- THE TIED CARD OF 'inkstandlaw05.WriteIs'. -/
def writeIsCard : Claim7 := { stood := { row := writeIsRow, standIns := [], harness := (true, "f0f4c8dc9786188829cdddbeca284e169647f00b9cf86a93bae77b592f8dd67e"), looks := false }, kinds := [], alts := [], laidByText := true, laidKinds := [.data, .data, .data, .data, .pinned], laidTests := true, laidLooks := .later }
def WriteIsCardSaid : Prop := Claim7.holds Tryd.pinned (.plain (OpenSpec.ofChange writeIsSpec)) writeIsCard

/-- THE TIED CARD OF 'inkstandlaw05.WriteParts'. -/
def writePartsCard : Claim7 := { stood := { row := writePartsRow, standIns := [], harness := (true, "f0f4c8dc9786188829cdddbeca284e169647f00b9cf86a93bae77b592f8dd67e"), looks := false }, kinds := [], alts := [], laidByText := true, laidKinds := [.data, .data, .data, .data, .pinned], laidTests := true, laidLooks := .later }
def WritePartsCardSaid : Prop := Claim7.holds Tryd.pinned (.plain (OpenSpec.ofChange writePartsSpec)) writePartsCard

/-- THE TIED CARD OF 'inkstandlaw05.WriteTexts'. -/
def writeTextsCard : Claim7 := { stood := { row := writeTextsRow, standIns := [], harness := (true, "f0f4c8dc9786188829cdddbeca284e169647f00b9cf86a93bae77b592f8dd67e"), looks := false }, kinds := [], alts := [], laidByText := true, laidKinds := [.data, .data, .data, .data, .pinned], laidTests := true, laidLooks := .later }
def WriteTextsCardSaid : Prop := Claim7.holds Tryd.pinned (.plain (OpenSpec.ofChange writeTextsSpec)) writeTextsCard

/-- THE TIED CARD OF 'inkstandlaw05.WriteLimits'. -/
def writeLimitsCard : Claim7 := { stood := { row := writeLimitsRow, standIns := [], harness := (true, "f0f4c8dc9786188829cdddbeca284e169647f00b9cf86a93bae77b592f8dd67e"), looks := false }, kinds := [], alts := [], laidByText := true, laidKinds := [.data, .data, .data, .data, .pinned], laidTests := true, laidLooks := .later }
def WriteLimitsCardSaid : Prop := Claim7.holds Tryd.pinned (.plain (OpenSpec.ofChange writeLimitsSpec)) writeLimitsCard

/-- THE SECOND FORM's CARD OF 'inkstandlaw05.WriteIs'. -/
def writeIsUptoCard : Claim7 := { stood := { row := writeIsUptoRow, standIns := [], harness := (true, "f0f4c8dc9786188829cdddbeca284e169647f00b9cf86a93bae77b592f8dd67e"), looks := false }, kinds := [], alts := [], laidByText := true, laidKinds := [.data, .data, .data, .data, .pinned], laidTests := true, laidLooks := .later }
def WriteIsUptoCardSaid : Prop := Claim7.holds Tryd.pinned (.plain (OpenSpec.upto writeIsSpec)) writeIsUptoCard

/-- THE SECOND FORM's CARD OF 'inkstandlaw05.WriteParts'. -/
def writePartsUptoCard : Claim7 := { stood := { row := writePartsUptoRow, standIns := [], harness := (true, "f0f4c8dc9786188829cdddbeca284e169647f00b9cf86a93bae77b592f8dd67e"), looks := false }, kinds := [], alts := [], laidByText := true, laidKinds := [.data, .data, .data, .data, .pinned], laidTests := true, laidLooks := .later }
def WritePartsUptoCardSaid : Prop := Claim7.holds Tryd.pinned (.plain (OpenSpec.upto writePartsSpec)) writePartsUptoCard

/-- THE SECOND FORM's CARD OF 'inkstandlaw05.WriteTexts'. -/
def writeTextsUptoCard : Claim7 := { stood := { row := writeTextsUptoRow, standIns := [], harness := (true, "f0f4c8dc9786188829cdddbeca284e169647f00b9cf86a93bae77b592f8dd67e"), looks := false }, kinds := [], alts := [], laidByText := true, laidKinds := [.data, .data, .data, .data, .pinned], laidTests := true, laidLooks := .later }
def WriteTextsUptoCardSaid : Prop := Claim7.holds Tryd.pinned (.plain (OpenSpec.upto writeTextsSpec)) writeTextsUptoCard

/-- THE SECOND FORM's CARD OF 'inkstandlaw05.WriteLimits'. -/
def writeLimitsUptoCard : Claim7 := { stood := { row := writeLimitsUptoRow, standIns := [], harness := (true, "f0f4c8dc9786188829cdddbeca284e169647f00b9cf86a93bae77b592f8dd67e"), looks := false }, kinds := [], alts := [], laidByText := true, laidKinds := [.data, .data, .data, .data, .pinned], laidTests := true, laidLooks := .later }
def WriteLimitsUptoCardSaid : Prop := Claim7.holds Tryd.pinned (.plain (OpenSpec.upto writeLimitsSpec)) writeLimitsUptoCard
end Rows
end Go.Proofs.YtdfgbdonnpbfcaaDoor
