/-
  DERIVED. GIVEN WITH THE SEED: THE CARDS: each row of YtkobcgemllcfoaaDoorRows.lean that lists a variable, with what it lists TIED to the program's text (the seventh form; the later family's looks); each row that meets fmt, with fmt's text TOLD by the authors' own Lean function (tested against real Go, not proved from fmt's source: count such statements apart). THE CARD IS WHAT COUNTS. Prove the row's statement (the work); the ties are given (YtkobcgemllcfoaaDoorTie.lean); close each card by the builder's one call (the guide's Derived/Test/ToyasCard.lean, 'card_holds'). Laid BY PROGRAM, IN A SANDBOX (cutbox-door.mjs). By AI agents, Wed Nov 11 2026. No macro, syntax, notation, axiom, sorry.
-/
import Derived.Test.YtkobcgemllcfoaaDoorRows
import GoSem.ClaimSeven
namespace Go.Proofs.YtkobcgemllcfoaaDoor
namespace Rows

/-- THE TIED CARD OF 'inkstandlaw05.WriteIs'. -/
def writeIsCard : Claim7 := { stood := { row := writeIsRow, standIns := [], harness := (true, "debeb4c452cd48c65bed089824913101b476afc6e06323277f0e716b9cba7d8f"), looks := true }, kinds := [], alts := [], laidByText := true, laidKinds := [.data, .data, .data, .data, .pinned], laidTests := true, laidLooks := .later }
def WriteIsCardSaid : Prop := Claim7.holds Tryd.pinned (.plain (OpenSpec.ofChange writeIsSpec)) writeIsCard

/-- THE TIED CARD OF 'inkstandlaw05.WriteParts'. -/
def writePartsCard : Claim7 := { stood := { row := writePartsRow, standIns := [], harness := (true, "debeb4c452cd48c65bed089824913101b476afc6e06323277f0e716b9cba7d8f"), looks := true }, kinds := [], alts := [], laidByText := true, laidKinds := [.data, .data, .data, .data, .pinned], laidTests := true, laidLooks := .later }
def WritePartsCardSaid : Prop := Claim7.holds Tryd.pinned (.plain (OpenSpec.ofChange writePartsSpec)) writePartsCard

/-- THE TIED CARD OF 'inkstandlaw06.InflateReads'. -/
def inflateReadsCard : Claim7 := { stood := { row := inflateReadsRow, standIns := [], harness := (true, "debeb4c452cd48c65bed089824913101b476afc6e06323277f0e716b9cba7d8f"), looks := true }, kinds := [], alts := [], laidByText := true, laidKinds := [.data], laidTests := true, laidLooks := .later }
def InflateReadsCardSaid : Prop := Claim7.holds Tryd.pinned (.plain (OpenSpec.ofChange inflateReadsSpec)) inflateReadsCard

/-- THE TIED CARD OF 'inkstandlaw06.InflateCodes'. -/
def inflateCodesCard : Claim7 := { stood := { row := inflateCodesRow, standIns := [], harness := (true, "debeb4c452cd48c65bed089824913101b476afc6e06323277f0e716b9cba7d8f"), looks := true }, kinds := [], alts := [], laidByText := true, laidKinds := [.data], laidTests := true, laidLooks := .later }
def InflateCodesCardSaid : Prop := Claim7.holds Tryd.pinned (.plain (OpenSpec.ofChange inflateCodesSpec)) inflateCodesCard

/-- THE TIED CARD OF 'inkstandlaw06.InflateApart'. -/
def inflateApartCard : Claim7 := { stood := { row := inflateApartRow, standIns := [], harness := (true, "debeb4c452cd48c65bed089824913101b476afc6e06323277f0e716b9cba7d8f"), looks := true }, kinds := [], alts := [], laidByText := true, laidKinds := [.data], laidTests := true, laidLooks := .later }
def InflateApartCardSaid : Prop := Claim7.holds Tryd.pinned (.plain (OpenSpec.ofChange inflateApartSpec)) inflateApartCard

/-- THE TIED CARD OF 'inkstandlaw06.InflateStored'. -/
def inflateStoredCard : Claim7 := { stood := { row := inflateStoredRow, standIns := [], harness := (true, "debeb4c452cd48c65bed089824913101b476afc6e06323277f0e716b9cba7d8f"), looks := true }, kinds := [], alts := [], laidByText := true, laidKinds := [.data], laidTests := true, laidLooks := .later }
def InflateStoredCardSaid : Prop := Claim7.holds Tryd.pinned (.plain (OpenSpec.ofChange inflateStoredSpec)) inflateStoredCard

/-- THE TIED CARD OF 'inkstandlaw06.InflateBehind'. -/
def inflateBehindCard : Claim7 := { stood := { row := inflateBehindRow, standIns := [], harness := (true, "debeb4c452cd48c65bed089824913101b476afc6e06323277f0e716b9cba7d8f"), looks := true }, kinds := [], alts := [], laidByText := true, laidKinds := [.data], laidTests := true, laidLooks := .later }
def InflateBehindCardSaid : Prop := Claim7.holds Tryd.pinned (.plain (OpenSpec.ofChange inflateBehindSpec)) inflateBehindCard

/-- THE TIED CARD OF 'inkstandlaw06.InflateSums'. -/
def inflateSumsCard : Claim7 := { stood := { row := inflateSumsRow, standIns := [], harness := (true, "debeb4c452cd48c65bed089824913101b476afc6e06323277f0e716b9cba7d8f"), looks := true }, kinds := [], alts := [], laidByText := true, laidKinds := [.data], laidTests := true, laidLooks := .later }
def InflateSumsCardSaid : Prop := Claim7.holds Tryd.pinned (.plain (OpenSpec.ofChange inflateSumsSpec)) inflateSumsCard

/-- THE TIED CARD OF 'inkstandlaw06.InflateFixed'. -/
def inflateFixedCard : Claim7 := { stood := { row := inflateFixedRow, standIns := [], harness := (true, "debeb4c452cd48c65bed089824913101b476afc6e06323277f0e716b9cba7d8f"), looks := true }, kinds := [], alts := [], laidByText := true, laidKinds := [.data], laidTests := true, laidLooks := .later }
def InflateFixedCardSaid : Prop := Claim7.holds Tryd.pinned (.plain (OpenSpec.ofChange inflateFixedSpec)) inflateFixedCard

/-- THE SECOND FORM's CARD OF 'inkstandlaw05.WriteIs'. -/
def writeIsUptoCard : Claim7 := { stood := { row := writeIsUptoRow, standIns := [], harness := (true, "debeb4c452cd48c65bed089824913101b476afc6e06323277f0e716b9cba7d8f"), looks := true }, kinds := [], alts := [], laidByText := true, laidKinds := [.data, .data, .data, .data, .pinned], laidTests := true, laidLooks := .later }
def WriteIsUptoCardSaid : Prop := Claim7.holds Tryd.pinned (.plain (OpenSpec.upto writeIsSpec)) writeIsUptoCard

/-- THE SECOND FORM's CARD OF 'inkstandlaw05.WriteParts'. -/
def writePartsUptoCard : Claim7 := { stood := { row := writePartsUptoRow, standIns := [], harness := (true, "debeb4c452cd48c65bed089824913101b476afc6e06323277f0e716b9cba7d8f"), looks := true }, kinds := [], alts := [], laidByText := true, laidKinds := [.data, .data, .data, .data, .pinned], laidTests := true, laidLooks := .later }
def WritePartsUptoCardSaid : Prop := Claim7.holds Tryd.pinned (.plain (OpenSpec.upto writePartsSpec)) writePartsUptoCard

/-- THE SECOND FORM's CARD OF 'inkstandlaw06.InflateReads'. -/
def inflateReadsUptoCard : Claim7 := { stood := { row := inflateReadsUptoRow, standIns := [], harness := (true, "debeb4c452cd48c65bed089824913101b476afc6e06323277f0e716b9cba7d8f"), looks := true }, kinds := [], alts := [], laidByText := true, laidKinds := [.data], laidTests := true, laidLooks := .later }
def InflateReadsUptoCardSaid : Prop := Claim7.holds Tryd.pinned (.plain (OpenSpec.upto inflateReadsSpec)) inflateReadsUptoCard

/-- THE SECOND FORM's CARD OF 'inkstandlaw06.InflateCodes'. -/
def inflateCodesUptoCard : Claim7 := { stood := { row := inflateCodesUptoRow, standIns := [], harness := (true, "debeb4c452cd48c65bed089824913101b476afc6e06323277f0e716b9cba7d8f"), looks := true }, kinds := [], alts := [], laidByText := true, laidKinds := [.data], laidTests := true, laidLooks := .later }
def InflateCodesUptoCardSaid : Prop := Claim7.holds Tryd.pinned (.plain (OpenSpec.upto inflateCodesSpec)) inflateCodesUptoCard

/-- THE SECOND FORM's CARD OF 'inkstandlaw06.InflateApart'. -/
def inflateApartUptoCard : Claim7 := { stood := { row := inflateApartUptoRow, standIns := [], harness := (true, "debeb4c452cd48c65bed089824913101b476afc6e06323277f0e716b9cba7d8f"), looks := true }, kinds := [], alts := [], laidByText := true, laidKinds := [.data], laidTests := true, laidLooks := .later }
def InflateApartUptoCardSaid : Prop := Claim7.holds Tryd.pinned (.plain (OpenSpec.upto inflateApartSpec)) inflateApartUptoCard

/-- THE SECOND FORM's CARD OF 'inkstandlaw06.InflateStored'. -/
def inflateStoredUptoCard : Claim7 := { stood := { row := inflateStoredUptoRow, standIns := [], harness := (true, "debeb4c452cd48c65bed089824913101b476afc6e06323277f0e716b9cba7d8f"), looks := true }, kinds := [], alts := [], laidByText := true, laidKinds := [.data], laidTests := true, laidLooks := .later }
def InflateStoredUptoCardSaid : Prop := Claim7.holds Tryd.pinned (.plain (OpenSpec.upto inflateStoredSpec)) inflateStoredUptoCard

/-- THE SECOND FORM's CARD OF 'inkstandlaw06.InflateBehind'. -/
def inflateBehindUptoCard : Claim7 := { stood := { row := inflateBehindUptoRow, standIns := [], harness := (true, "debeb4c452cd48c65bed089824913101b476afc6e06323277f0e716b9cba7d8f"), looks := true }, kinds := [], alts := [], laidByText := true, laidKinds := [.data], laidTests := true, laidLooks := .later }
def InflateBehindUptoCardSaid : Prop := Claim7.holds Tryd.pinned (.plain (OpenSpec.upto inflateBehindSpec)) inflateBehindUptoCard

/-- THE SECOND FORM's CARD OF 'inkstandlaw06.InflateSums'. -/
def inflateSumsUptoCard : Claim7 := { stood := { row := inflateSumsUptoRow, standIns := [], harness := (true, "debeb4c452cd48c65bed089824913101b476afc6e06323277f0e716b9cba7d8f"), looks := true }, kinds := [], alts := [], laidByText := true, laidKinds := [.data], laidTests := true, laidLooks := .later }
def InflateSumsUptoCardSaid : Prop := Claim7.holds Tryd.pinned (.plain (OpenSpec.upto inflateSumsSpec)) inflateSumsUptoCard

/-- THE SECOND FORM's CARD OF 'inkstandlaw06.InflateFixed'. -/
def inflateFixedUptoCard : Claim7 := { stood := { row := inflateFixedUptoRow, standIns := [], harness := (true, "debeb4c452cd48c65bed089824913101b476afc6e06323277f0e716b9cba7d8f"), looks := true }, kinds := [], alts := [], laidByText := true, laidKinds := [.data], laidTests := true, laidLooks := .later }
def InflateFixedUptoCardSaid : Prop := Claim7.holds Tryd.pinned (.plain (OpenSpec.upto inflateFixedSpec)) inflateFixedUptoCard
end Rows
end Go.Proofs.YtkobcgemllcfoaaDoor
