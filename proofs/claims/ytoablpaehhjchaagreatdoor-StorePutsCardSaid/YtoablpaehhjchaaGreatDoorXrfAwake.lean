import Derived.Test.YtoablpaehhjchaaGreatDoorXrfC
import Derived.Test.YtoablpaehhjchaaGreatDoorXrfA
import Derived.Test.YtoablpaehhjchaaGreatDoorXrfStart
namespace Go.Proofs.YtoablpaehhjchaaGreatDoor
open Go.RowKit Rx
set_option linter.unusedSimpArgs false
set_option linter.unusedVariables false

def eC (e : Xent) : Array Value := #[.int .i64 e.n, .int .i64 e.off, .int .i64 e.gen, .bool e.used]

theorem one_sl {w : World} {k : Nat} {e : Xent} {t : TypeId} (h : Blk w k (eC e) t) : Sl w (some ⟨k, 0, none⟩) 1 [e] := by
  refine ⟨fun i hi => ?_, (fun h => by cases h), Nat.le_refl _⟩
  have hi : i < 1 := hi
  obtain rfl : i = 0 := by omega
  refine ⟨k, 0, rfl, h.lt, ?_, ?_, ?_, ?_⟩
  all_goals (rw [h.cell]; rfl)
def Okw (w : World) : Prop := HasMax w ∧ ∃ B, TB B w ∧ B ≤ w.heap.size

end Go.Proofs.YtoablpaehhjchaaGreatDoor
