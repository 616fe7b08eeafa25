/-
  'Fine w': the library's two variables that the texts' functions read are as they are laid.
-/
import Derived.Test.YtkobcgemllcfoaaDoorKept
import Derived.Lib.LaidTab
import Derived.Lib.ItoaNum
namespace Go.Proofs.YtkobcgemllcfoaaDoor
open Go.RowKit

def Fine (w : World) : Prop :=
  (∃ m, w.cell? ⟨2, 0, none⟩ = some (.int .i64 m)) ∧ Lib.TabIs Tryd.prog w "internal/strconv.uint64pow10" .u64 Lib.pow10Tab

theorem Fine.kept {w w' : World} (h : Fine w) (k : Kept w w') : Fine w' := by
  obtain ⟨⟨m, hm⟩, ht⟩ := h
  have sz : ∀ (b : Nat) o, w.cell? ⟨b, o, none⟩ ≠ none → b < w.heap.size := by
    intro b o hne
    by_cases hb : b < w.heap.size
    · exact hb
    · exact absurd (by simp [World.cell?, hb]) hne
  refine ⟨⟨m, ?_⟩, ?_⟩
  · rw [Below.cell k (sz _ _ (by rw [hm]; simp))]; exact hm
  · unfold Lib.TabIs World.var? at *
    rw [show Tryd.prog.globalNamed "internal/strconv.uint64pow10" = some 1 by kernel_rfl] at *
    simp only [Option.bind_some] at *
    have hb : 1 < w.heap.size := by
      by_cases hb : 1 < w.heap.size
      · exact hb
      · rw [Array.getElem?_eq_none (by omega)] at ht; simp at ht
    rw [Below.block k _ hb]; exact ht

end Go.Proofs.YtkobcgemllcfoaaDoor
