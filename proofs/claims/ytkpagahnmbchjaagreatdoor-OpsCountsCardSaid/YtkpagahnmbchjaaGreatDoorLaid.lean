/-
  From a row's listed variables to what the walks ask of the world ('Fine'); a world in which the listed variables lie as they are listed; and how a law's post follows from 'Kept'.
-/
import Derived.Test.YtkpagahnmbchjaaGreatDoorXBase
import Derived.Test.YtkpagahnmbchjaaGreatDoorPost
import Derived.Test.YtkpagahnmbchjaaGreatDoorShelf
import Derived.Test.YtkpagahnmbchjaaGreatDoorCards
import Derived.Test.YtkpagahnmbchjaaGreatDoorTie
import Derived.ProofKit
import Derived.Shelf.Vars
import Derived.OpenShut
import Derived.Carry
import Derived.ShutString
import Derived.Deep.DeepHandedRow
import Derived.Stop.LaidErr
namespace Go.Proofs.YtkpagahnmbchjaaGreatDoor
open Go.ChangeShapes Go.WideShapes Go.ChangeAt Go.RowKit

/-- What the rows of this seat list. -/
def seatLaid : List (String × DataW Unit) := [("math/bits.deBruijn32tab", Rows.laid_math_bits_deBruijn32tab), ("math/bits.deBruijn64tab", Rows.laid_math_bits_deBruijn64tab), ("internal/strconv.uint64pow10", Rows.laid_internal_strconv_uint64pow10), ("unicode/utf8.acceptRanges", Rows.laid_unicode_utf8_acceptRanges), ("unicode/utf8.first", Rows.laid_unicode_utf8_first)]

theorem powNamed : Tryz.prog.globalNamed "internal/strconv.uint64pow10" = some 1 := by kernel_rfl
theorem powType : (Tryz.prog.globals[1]?).map (·.type) = some 180 := by kernel_rfl
theorem powCells : Tryz.prog.cellsOf 180 = 20 := by kernel_rfl
theorem powCell : Tryz.prog.cellsOf 121 = 1 := by kernel_rfl
theorem powData : Rows.laid_internal_strconv_uint64pow10 (H := Unit) = Lib.tabData .u64 Lib.pow10Tab := by kernel_rfl

/-- The row's list and the world's shape give what the walks ask. -/
theorem fine_of {W : World} (hL : laidMetH Tryz.prog seatLaid W) (hsh : W.ShapedOpen Tryz.prog) : Fine W := by
  refine ⟨cell_of_shapedOpen_int (g := 0) (zero := #[.int .i64 0]) (t := 3) hsh (of_decide_eq_true (by kernel_rfl)) (by kernel_rfl) rfl (by kernel_rfl) (by kernel_rfl) Tryz.underlying3, ?_⟩
  have h : laidMet Tryz.prog seatLaid W := hL
  have h3 := (laidMet.tail (laidMet.tail h))
  rw [powData] at h3
  exact Lib.tabIs_of_head powNamed powType Tryz.underlying180 Tryz.underlying121 powCell powCells h3

/-- A datum of numbers, cell by cell. -/
def flatOf : Nat → DataW Unit → List Value
  | _, .lit (.int k z) => [.int k z]
  | n + 1, .agg ds => ds.flatMap (flatOf n)
  | _, _ => []
/-- The heap with a listed variable's block as it is listed. -/
noncomputable def layIn (h : Array Obj) (x : String × DataW Unit) : Array Obj :=
  match Tryz.prog.globalNamed x.1 with
  | some g => h.modify g fun
    | .cells _ t frozen => .cells (flatOf 4 x.2).toArray t frozen
    | o => o
  | none => h
/-- A world for the witness. -/
noncomputable def laidWorld (os : Os) : World :=
  { World.holding Tryz.prog os ⟨#[], #[], []⟩ with heap := seatLaid.foldl layIn (World.holding Tryz.prog os ⟨#[], #[], []⟩).heap }

end Go.Proofs.YtkpagahnmbchjaaGreatDoor
