/-
  'HasMax' of a world that is shaped as the program's own.
-/
import Derived.Test.YtbgdeaeikijdgaaGreatDoorXBase
import Derived.HandedShaped
import Derived.Shelf.Vars
namespace Go.Proofs.YtbgdeaeikijdgaaGreatDoor
open Go.RowKit Go.Lib

theorem max_of_shaped {w : World} (h : w.ShapedOpen Tryz.prog) : HasMax w :=
  Go.Proofs.cell_of_shapedOpen_int (zero := #[.int .i64 0]) (t := 3) h (of_decide_eq_true (by kernel_rfl)) (by kernel_rfl) rfl (by kernel_rfl) (by kernel_rfl) Tryz.underlying3

end Go.Proofs.YtbgdeaeikijdgaaGreatDoor
