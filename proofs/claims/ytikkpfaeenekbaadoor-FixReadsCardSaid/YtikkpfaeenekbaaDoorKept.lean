/-
  'Kept w w'': nothing that lay in the world w has turned in the world w'; new blocks may lie behind, and draws may have been made. 'Fine w': the library's two variables that the texts' functions read are as they are laid.
-/
import Derived.WalkKit
import Derived.Sort.Grow
import Derived.Lib.LaidTab
import Derived.Lib.ItoaNum
import Derived.Deep.Draws
import Derived.Test.YtikkpfaeenekbaaDoorRows
namespace Go.Proofs.YtikkpfaeenekbaaDoor
open Go.RowKit

def Kept (w w' : World) : Prop := Below w.heap.size w w'

theorem Kept.refl (w : World) : Kept w w := Below.refl _ _
theorem Kept.trans {a b c : World} (h : Kept a b) (k : Kept b c) : Kept a c := Below.trans h (Below.mono k (Below.size h))
theorem Kept.alloc {a b : World} (h : Kept a b) (c : Array Value) (t : TypeId) : Kept a (b.alloc (.cells c t)) := Below.alloc h (Below.size h) _
theorem Kept.drew {a b : World} (h : Kept a b) : Kept a b.drew := Below.drew h
theorem Kept.drewN {a b : World} (h : Kept a b) (n : Nat) : Kept a (b.drewN n) := ⟨h.os, h.tape, h.output, h.size, h.block⟩
theorem Kept.grow {a b : World} (h : Kept a b) (os : Array Obj) : Kept a (Go.Sort.grow b os) := by
  refine Kept.trans h ⟨rfl, rfl, rfl, ?_, fun k hk => ?_⟩
  · simp [Go.Sort.grow]
  · simp [Go.Sort.grow, Array.getElem?_append, hk]
theorem Kept.below {a b : World} (h : Kept a b) : Below a.heap.size a b := h

def Fine (w : World) : Prop :=
  (∃ m, w.cell? ⟨0, 0, none⟩ = some (.int .i64 m)) ∧ Lib.TabIs Tryd.prog w "internal/strconv.uint64pow10" .u64 Lib.pow10Tab

theorem Fine.kept {w w' : World} (h : Fine w) (k : Kept w w') : Fine w' := by
  obtain ⟨⟨m, hm⟩, ht⟩ := h
  have sz : ∀ (b : Nat) o, w.cell? ⟨b, o, none⟩ ≠ none → b < w.heap.size := by
    intro b o hne
    by_cases hb : b < w.heap.size
    · exact hb
    · exact absurd (by simp [World.cell?, hb]) hne
  refine ⟨⟨m, ?_⟩, ?_⟩
  · rw [Below.cell k (sz _ _ (by rw [hm]; simp))]; exact hm
  · unfold Lib.TabIs World.var? at *
    rw [show Tryd.prog.globalNamed "internal/strconv.uint64pow10" = some 1 by kernel_rfl] at *
    simp only [Option.bind_some] at *
    have hb : 1 < w.heap.size := by
      by_cases hb : 1 < w.heap.size
      · exact hb
      · rw [Array.getElem?_eq_none (by omega)] at ht; simp at ht
    rw [Below.block k _ hb]; exact ht

end Go.Proofs.YtikkpfaeenekbaaDoor
