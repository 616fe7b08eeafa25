/-
  'HasMax w': the library's one variable that strings.Cut reads holds some number; so it is in every world that is shaped as the program's own, and stays so.
-/
import Derived.Test.YtoakbcjdkohoiaaKept
import Derived.Test.YtoakbcjdkohoiaaShelf
namespace Go.Proofs.Ytoakbcjdkohoiaa
open Go.RowKit

def HasMax (w : World) : Prop := ∃ m, w.cell? ⟨0, 0, none⟩ = some (.int .i64 m)

theorem HasMax.kept {w w' : World} (h : HasMax w) (k : Kept w w') : HasMax w' := by
  obtain ⟨m, hm⟩ := h
  have hb : 0 < w.heap.size := by
    by_cases hb : 0 < w.heap.size
    · exact hb
    · exact absurd hm (by simp [World.cell?, hb])
  exact ⟨m, (Below.cell k (p := ⟨0, 0, none⟩) hb).trans hm⟩

end Go.Proofs.Ytoakbcjdkohoiaa
