/-
  A world in which the variable lies that inflate's rows list.
-/
import Derived.Test.YtbgdeaeikijdgaaGreatDoorPost
import Derived.Test.YtbgdeaeikijdgaaGreatDoorCards
import Derived.Test.YtbgdeaeikijdgaaGreatDoorTie
import Derived.ProofKit
import Derived.Shelf.Vars
import Derived.OpenShut
import Derived.Carry
import Derived.ShutString
import Derived.Deep.DeepHandedRow
import Derived.Stop.LaidErr
namespace Go.Proofs.YtbgdeaeikijdgaaGreatDoor.inf
open Go.ChangeShapes Go.WideShapes Go.ChangeAt Go.RowKit

/-- What the rows list. -/
def seatLaid : List (String × DataW Unit) := [("inkstand/inflate.lengthsOrder", Rows.laid_inkstand_inflate_lengthsOrder)]
/-- A datum of numbers, cell by cell. -/
def flatOf : Nat → DataW Unit → List Value
  | _, .lit (.int k z) => [.int k z]
  | n + 1, .agg ds => ds.flatMap (flatOf n)
  | _, _ => []
/-- The heap with a listed variable's block as it is listed. -/
noncomputable def layIn (h : Array Obj) (x : String × DataW Unit) : Array Obj :=
  match Tryz.prog.globalNamed x.1 with
  | some g => h.modify g fun
    | .cells _ t frozen => .cells (flatOf 4 x.2).toArray t frozen
    | o => o
  | none => h
/-- A world for the witness. -/
noncomputable def laidWorld (os : Os) : World :=
  { World.holding Tryz.prog os ⟨#[], #[], []⟩ with heap := seatLaid.foldl layIn (World.holding Tryz.prog os ⟨#[], #[], []⟩).heap }

end Go.Proofs.YtbgdeaeikijdgaaGreatDoor.inf
