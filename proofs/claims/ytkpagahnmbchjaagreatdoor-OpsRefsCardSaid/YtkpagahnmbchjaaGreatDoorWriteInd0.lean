/-
  Indirect of an object that is no Stream, and may be.
-/
import Derived.Test.YtkpagahnmbchjaaGreatDoorWrC
namespace Go.Proofs.YtkpagahnmbchjaaGreatDoor
open Go.RowKit Cx
set_option linter.unusedSimpArgs false
set_option linter.unusedVariables false

theorem FB.fine {B : Nat} {w : World} (h : FB B w) : Fine w := h.1

end Go.Proofs.YtkpagahnmbchjaaGreatDoor
