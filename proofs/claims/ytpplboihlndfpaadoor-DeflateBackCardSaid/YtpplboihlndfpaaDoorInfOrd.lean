/-
  From what the rows list to the variable lengthsOrder.
-/
import Derived.Test.YtpplboihlndfpaaDoorInfLaid
import Derived.Test.YtpplboihlndfpaaDoorInfOwnTrees
namespace Go.Proofs.YtpplboihlndfpaaDoor.inf
open Go.ChangeShapes Go.WideShapes Go.ChangeAt Go.RowKit Ix

theorem ordType : (Tryd.prog.globals[0]?).map (·.type) = some 144 := by kernel_rfl
theorem ordCells : Tryd.prog.cellsOf 144 = 19 := by kernel_rfl
theorem ordCell : Tryd.prog.cellsOf 3 = 1 := by kernel_rfl
theorem ordData : Rows.laid_inkstand_inflate_lengthsOrder (H := Unit) = Lib.tabData .i64 (ordL.map Int.ofNat) := by kernel_rfl
/-- The rows' list gives what the walks ask. -/
theorem ord_of {W : World} (hL : laidMetH Tryd.prog seatLaid W) : Ordd W := by
  have h : laidMet Tryd.prog seatLaid W := hL
  unfold seatLaid at h
  rw [ordData] at h
  exact Lib.tabIs_of_head ordNamed ordType Tryd.underlying144 Tryd.underlying3 ordCell ordCells h

end Go.Proofs.YtpplboihlndfpaaDoor.inf
