/-
  'Kept w w'': nothing that lay in the world w has turned in the world w'; new blocks may lie behind, and draws may have been made.
-/
import Derived.WalkKit
import Derived.Sort.Grow
import Derived.Deep.Draws
import Derived.Test.YtkgaddlclfjkmaaRows
namespace Go.Proofs.Ytkgaddlclfjkmaa
open Go.RowKit

def Kept (w w' : World) : Prop := Below w.heap.size w w'

theorem Kept.refl (w : World) : Kept w w := Below.refl _ _
theorem Kept.trans {a b c : World} (h : Kept a b) (k : Kept b c) : Kept a c := Below.trans h (Below.mono k (Below.size h))
theorem Kept.alloc {a b : World} (h : Kept a b) (c : Array Value) (t : TypeId) : Kept a (b.alloc (.cells c t)) := Below.alloc h (Below.size h) _
theorem Kept.drew {a b : World} (h : Kept a b) : Kept a b.drew := Below.drew h
theorem Kept.drewN {a b : World} (h : Kept a b) (n : Nat) : Kept a (b.drewN n) := ⟨h.os, h.tape, h.output, h.size, h.block⟩
theorem Kept.grow {a b : World} (h : Kept a b) (os : Array Obj) : Kept a (Go.Sort.grow b os) := by
  refine Kept.trans h ⟨rfl, rfl, rfl, ?_, fun k hk => ?_⟩
  · simp [Go.Sort.grow]
  · simp [Go.Sort.grow, Array.getElem?_append, hk]
theorem Kept.cells {W w1 : World} (h : Kept W w1) : (∀ b o, b < W.heap.size → w1.cell? ⟨b, o, none⟩ = W.cell? ⟨b, o, none⟩) ∧ (∀ b o, b < W.heap.size → w1.frozen? ⟨b, o, none⟩ = W.frozen? ⟨b, o, none⟩) :=
  ⟨fun b o k => Below.cell h (p := ⟨b, o, none⟩) k, fun b o k => Below.frozen h (p := ⟨b, o, none⟩) k⟩
theorem Kept.set {a b : World} (h : Kept a b) {k o : Nat} (hp : a.heap.size ≤ k) (u : Value) : Kept a (b.setCell ⟨k, o, none⟩ u) := Below.setCell h hp u
theorem Kept.below {a b : World} (h : Kept a b) : Below a.heap.size a b := h

end Go.Proofs.Ytkgaddlclfjkmaa
