/-
  DERIVED. GIVEN WITH THE SEED: THE CARDS: each row of YtkpagahnmbchjaaGreatDoorRows.lean that lists a variable, with what it lists TIED to the program's text (the seventh form; the later family's looks); each row that meets fmt, with fmt's text TOLD by the authors' own Lean function (tested against real Go, not proved from fmt's source: count such statements apart). THE CARD IS WHAT COUNTS. Prove the row's statement (the work); the ties are given (YtkpagahnmbchjaaGreatDoorTie.lean); close each card by the builder's one call (the guide's Derived/Test/ToyasCard.lean, 'card_holds'). Laid BY PROGRAM, IN A SANDBOX (cutbox-door.mjs). By AI agents, Wed Nov 11 2026. No macro, syntax, notation, axiom, sorry.
-/
import Derived.Test.YtkpagahnmbchjaaGreatDoorRows
import GoSem.ClaimSeven
namespace Go.Proofs.YtkpagahnmbchjaaGreatDoor
namespace Rows

/-- THE TIED CARD OF 'inkstandlaw11.OpsBack'. -/
def opsBackCard : Claim7 := { stood := { row := opsBackRow, standIns := [], harness := (true, "65ac9095ad5b9f908d54b17f327963ce6c2a2bbe457e314155f04075038cd52f"), looks := false }, kinds := [], alts := [], laidByText := true, laidKinds := [.data, .data, .data, .data, .pinned], laidTests := true, laidLooks := .later }
def OpsBackCardSaid : Prop := Claim7.holds Tryz.pinned (.plain (OpenSpec.ofChange opsBackSpec)) opsBackCard

/-- THE TIED CARD OF 'inkstandlaw11.OpsWrap'. -/
def opsWrapCard : Claim7 := { stood := { row := opsWrapRow, standIns := [], harness := (true, "65ac9095ad5b9f908d54b17f327963ce6c2a2bbe457e314155f04075038cd52f"), looks := false }, kinds := [], alts := [], laidByText := true, laidKinds := [.data, .data, .data, .data, .pinned], laidTests := true, laidLooks := .later }
def OpsWrapCardSaid : Prop := Claim7.holds Tryz.pinned (.plain (OpenSpec.ofChange opsWrapSpec)) opsWrapCard

/-- THE TIED CARD OF 'inkstandlaw11.OpsRefs'. -/
def opsRefsCard : Claim7 := { stood := { row := opsRefsRow, standIns := [], harness := (true, "65ac9095ad5b9f908d54b17f327963ce6c2a2bbe457e314155f04075038cd52f"), looks := false }, kinds := [], alts := [], laidByText := true, laidKinds := [.data, .data, .data, .data, .pinned], laidTests := true, laidLooks := .later }
def OpsRefsCardSaid : Prop := Claim7.holds Tryz.pinned (.plain (OpenSpec.ofChange opsRefsSpec)) opsRefsCard

/-- THE TIED CARD OF 'inkstandlaw11.OpsCounts'. -/
def opsCountsCard : Claim7 := { stood := { row := opsCountsRow, standIns := [], harness := (true, "65ac9095ad5b9f908d54b17f327963ce6c2a2bbe457e314155f04075038cd52f"), looks := false }, kinds := [], alts := [], laidByText := true, laidKinds := [.data, .data, .data, .data, .pinned], laidTests := true, laidLooks := .later }
def OpsCountsCardSaid : Prop := Claim7.holds Tryz.pinned (.plain (OpenSpec.ofChange opsCountsSpec)) opsCountsCard

/-- THE SECOND FORM's CARD OF 'inkstandlaw11.OpsBack'. -/
def opsBackUptoCard : Claim7 := { stood := { row := opsBackUptoRow, standIns := [], harness := (true, "65ac9095ad5b9f908d54b17f327963ce6c2a2bbe457e314155f04075038cd52f"), looks := false }, kinds := [], alts := [], laidByText := true, laidKinds := [.data, .data, .data, .data, .pinned], laidTests := true, laidLooks := .later }
def OpsBackUptoCardSaid : Prop := Claim7.holds Tryz.pinned (.plain (OpenSpec.upto opsBackSpec)) opsBackUptoCard

/-- THE SECOND FORM's CARD OF 'inkstandlaw11.OpsWrap'. -/
def opsWrapUptoCard : Claim7 := { stood := { row := opsWrapUptoRow, standIns := [], harness := (true, "65ac9095ad5b9f908d54b17f327963ce6c2a2bbe457e314155f04075038cd52f"), looks := false }, kinds := [], alts := [], laidByText := true, laidKinds := [.data, .data, .data, .data, .pinned], laidTests := true, laidLooks := .later }
def OpsWrapUptoCardSaid : Prop := Claim7.holds Tryz.pinned (.plain (OpenSpec.upto opsWrapSpec)) opsWrapUptoCard

/-- THE SECOND FORM's CARD OF 'inkstandlaw11.OpsRefs'. -/
def opsRefsUptoCard : Claim7 := { stood := { row := opsRefsUptoRow, standIns := [], harness := (true, "65ac9095ad5b9f908d54b17f327963ce6c2a2bbe457e314155f04075038cd52f"), looks := false }, kinds := [], alts := [], laidByText := true, laidKinds := [.data, .data, .data, .data, .pinned], laidTests := true, laidLooks := .later }
def OpsRefsUptoCardSaid : Prop := Claim7.holds Tryz.pinned (.plain (OpenSpec.upto opsRefsSpec)) opsRefsUptoCard

/-- THE SECOND FORM's CARD OF 'inkstandlaw11.OpsCounts'. -/
def opsCountsUptoCard : Claim7 := { stood := { row := opsCountsUptoRow, standIns := [], harness := (true, "65ac9095ad5b9f908d54b17f327963ce6c2a2bbe457e314155f04075038cd52f"), looks := false }, kinds := [], alts := [], laidByText := true, laidKinds := [.data, .data, .data, .data, .pinned], laidTests := true, laidLooks := .later }
def OpsCountsUptoCardSaid : Prop := Claim7.holds Tryz.pinned (.plain (OpenSpec.upto opsCountsSpec)) opsCountsUptoCard
end Rows
end Go.Proofs.YtkpagahnmbchjaaGreatDoor
