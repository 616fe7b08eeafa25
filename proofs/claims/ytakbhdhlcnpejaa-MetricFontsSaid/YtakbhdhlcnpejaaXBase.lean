/-
  'Kept w w'': nothing that lay in the world w has turned in the world w'; new blocks may lie behind, and draws may have been made.
  A block that is known whole: 'Blk w b cs t': at number b lie the cells cs, of type t, none of them frozen. It stays so behind what keeps it, and its cells read as they are written.
  'In w l wx': behind w lies wx: nothing that was there has turned, and the blocks of the list l are known whole. How a block that a statement makes joins the list, in whatever order it was made.
  Behind w lies wx: nothing that was there has turned.
  'Fine w': the library's two variables that the texts' functions read are as they are laid.
  'HasMax w': the library's one variable that strings.Cut reads holds some number; so it is in every world that is shaped as the program's own, and stays so.
-/
import Derived.WalkKit
import Derived.Sort.Grow
import Derived.Deep.Draws
import Derived.Test.YtakbhdhlcnpejaaRows
import Derived.Laws.Rows
import Derived.OneCell
import Derived.Lib.LaidTab
import Derived.Lib.ItoaNum
import Derived.Test.YtakbhdhlcnpejaaShelf
namespace Go.Proofs.Ytakbhdhlcnpejaa
open Go.RowKit

def Kept (w w' : World) : Prop := Below w.heap.size w w'

theorem Kept.refl (w : World) : Kept w w := Below.refl _ _
theorem Kept.trans {a b c : World} (h : Kept a b) (k : Kept b c) : Kept a c := Below.trans h (Below.mono k (Below.size h))
theorem Kept.alloc {a b : World} (h : Kept a b) (c : Array Value) (t : TypeId) : Kept a (b.alloc (.cells c t)) := Below.alloc h (Below.size h) _
theorem Kept.drew {a b : World} (h : Kept a b) : Kept a b.drew := Below.drew h
theorem Kept.drewN {a b : World} (h : Kept a b) (n : Nat) : Kept a (b.drewN n) := ⟨h.os, h.tape, h.output, h.size, h.block⟩
theorem Kept.grow {a b : World} (h : Kept a b) (os : Array Obj) : Kept a (Go.Sort.grow b os) := by
  refine Kept.trans h ⟨rfl, rfl, rfl, ?_, fun k hk => ?_⟩
  · simp [Go.Sort.grow]
  · simp [Go.Sort.grow, Array.getElem?_append, hk]
theorem Kept.cells {W w1 : World} (h : Kept W w1) : (∀ b o, b < W.heap.size → w1.cell? ⟨b, o, none⟩ = W.cell? ⟨b, o, none⟩) ∧ (∀ b o, b < W.heap.size → w1.frozen? ⟨b, o, none⟩ = W.frozen? ⟨b, o, none⟩) :=
  ⟨fun b o k => Below.cell h (p := ⟨b, o, none⟩) k, fun b o k => Below.frozen h (p := ⟨b, o, none⟩) k⟩
theorem Kept.set {a b : World} (h : Kept a b) {k o : Nat} (hp : a.heap.size ≤ k) (u : Value) : Kept a (b.setCell ⟨k, o, none⟩ u) := Below.setCell h hp u
theorem Kept.below {a b : World} (h : Kept a b) : Below a.heap.size a b := h

end Go.Proofs.Ytakbhdhlcnpejaa

namespace Go.Proofs.Ytakbhdhlcnpejaa
open Go.RowKit

def Blk (w : World) (b : Nat) (cs : Array Value) (t : TypeId) : Prop := w.heap[b]? = some (.cells cs t (0, 0))

theorem Blk.lt {w : World} {b : Nat} {cs : Array Value} {t : TypeId} (h : Blk w b cs t) : b < w.heap.size := by
  unfold Blk at h
  by_cases k : b < w.heap.size
  · exact k
  · rw [Array.getElem?_eq_none (by omega)] at h; cases h
theorem Blk.kept {w w' : World} {b : Nat} {cs : Array Value} {t : TypeId} (h : Blk w b cs t) (k : Kept w w') : Blk w' b cs t := by
  have := Below.block k b h.lt
  unfold Blk at *
  rw [this]; exact h
theorem Blk.drew {w : World} {b : Nat} {cs : Array Value} {t : TypeId} (h : Blk w b cs t) : Blk w.drew b cs t := h
theorem Blk.alloc {w : World} {b : Nat} {cs : Array Value} {t : TypeId} (h : Blk w b cs t) (o : Obj) : Blk (w.alloc o) b cs t := by
  have := Below.heap_alloc w o b h.lt
  unfold Blk at *
  rw [this]; exact h
theorem Blk.fresh (w : World) (cs : Array Value) (t : TypeId) : Blk (w.alloc (.cells cs t (0, 0))) w.heap.size cs t :=
  heap_alloc_new w _
theorem Blk.fresh' {w : World} {b : Nat} (cs : Array Value) (t : TypeId) (h : b = w.heap.size) : Blk (w.alloc (.cells cs t (0, 0))) b cs t := by
  subst h; exact Blk.fresh w cs t
theorem Blk.other {w : World} {b : Nat} {cs : Array Value} {t : TypeId} (h : Blk w b cs t) {k o : Nat} (n : b ≠ k) (v : Value) : Blk (w.setCell ⟨k, o, none⟩ v) b cs t := by
  have := Below.heap_setCell w ⟨k, o, none⟩ v b n
  unfold Blk at *
  rw [this]; exact h
theorem Blk.set {w : World} {b : Nat} {cs : Array Value} {t : TypeId} (h : Blk w b cs t) (o : Nat) (v : Value) : Blk (w.setCell ⟨b, o, none⟩ v) b (cs.setIfInBounds o v) t :=
  heap_setCell_same w b o cs t v h
theorem Blk.cell {w : World} {b : Nat} {cs : Array Value} {t : TypeId} (h : Blk w b cs t) (o : Nat) : w.cell? ⟨b, o, none⟩ = cs[o]? := by
  unfold Blk at h
  simp [World.cell?, h]
theorem Blk.frozen {w : World} {b : Nat} {cs : Array Value} {t : TypeId} (h : Blk w b cs t) (o : Nat) : w.frozen? ⟨b, o, none⟩ = false := by
  unfold Blk at h
  simp [World.frozen?, h]
theorem Blk.free {w : World} {b : Nat} {cs : Array Value} {t : TypeId} (h : Blk w b cs t) : ∀ o, w.frozen? ⟨b, o, none⟩ = false := fun o => h.frozen o

theorem Blk.cells2 {w : World} {b : Nat} {v0 v1 : Value} {t : TypeId} (h : Blk w b #[v0, v1] t) : w.cell? ⟨b, 0, none⟩ = some v0 ∧ w.cell? ⟨b, 1, none⟩ = some v1 :=
  ⟨h.cell 0, h.cell 1⟩
theorem Blk.cells4 {w : World} {b : Nat} {v0 v1 v2 v3 : Value} {t : TypeId} (h : Blk w b #[v0, v1, v2, v3] t) : w.cell? ⟨b, 0, none⟩ = some v0 ∧ w.cell? ⟨b, 1, none⟩ = some v1 ∧ w.cell? ⟨b, 2, none⟩ = some v2 ∧ w.cell? ⟨b, 3, none⟩ = some v3 :=
  ⟨h.cell 0, h.cell 1, h.cell 2, h.cell 3⟩
theorem Blk.cells6 {w : World} {b : Nat} {v0 v1 v2 v3 v4 v5 : Value} {t : TypeId} (h : Blk w b #[v0, v1, v2, v3, v4, v5] t) : w.cell? ⟨b, 0, none⟩ = some v0 ∧ w.cell? ⟨b, 1, none⟩ = some v1 ∧ w.cell? ⟨b, 2, none⟩ = some v2 ∧ w.cell? ⟨b, 3, none⟩ = some v3 ∧ w.cell? ⟨b, 4, none⟩ = some v4 ∧ w.cell? ⟨b, 5, none⟩ = some v5 :=
  ⟨h.cell 0, h.cell 1, h.cell 2, h.cell 3, h.cell 4, h.cell 5⟩
theorem Blk.set4 {w : World} {b : Nat} {u0 u1 u2 u3 : Value} {t : TypeId} (h : Blk w b #[u0, u1, u2, u3] t) (v0 v1 v2 v3 : Value) :
    Blk ((((w.setCell ⟨b, 0, none⟩ v0).setCell ⟨b, 1, none⟩ v1).setCell ⟨b, 2, none⟩ v2).setCell ⟨b, 3, none⟩ v3) b #[v0, v1, v2, v3] t := by
  have := (((h.set 0 v0).set 1 v1).set 2 v2).set 3 v3
  simpa using this
theorem Blk.other4 {w : World} {b : Nat} {cs : Array Value} {t : TypeId} (h : Blk w b cs t) {k : Nat} (n : b ≠ k) (v0 v1 v2 v3 : Value) :
    Blk ((((w.setCell ⟨k, 0, none⟩ v0).setCell ⟨k, 1, none⟩ v1).setCell ⟨k, 2, none⟩ v2).setCell ⟨k, 3, none⟩ v3) b cs t :=
  (((h.other n v0).other n v1).other n v2).other n v3
theorem Kept.allocO {a b : World} (h : Kept a b) (o : Obj) : Kept a (b.alloc o) := Below.alloc h (Below.size h) o
theorem Kept.set4 {a w : World} (h : Kept a w) {k : Nat} (hp : a.heap.size ≤ k) (v0 v1 v2 v3 : Value) :
    Kept a ((((w.setCell ⟨k, 0, none⟩ v0).setCell ⟨k, 1, none⟩ v1).setCell ⟨k, 2, none⟩ v2).setCell ⟨k, 3, none⟩ v3) :=
  (((h.set hp v0).set hp v1).set hp v2).set hp v3

end Go.Proofs.Ytakbhdhlcnpejaa

namespace Go.Proofs.Ytakbhdhlcnpejaa
open Go.RowKit

abbrev BlkList := List (Nat × Array Value × TypeId)
def In (w : World) (l : BlkList) (wx : World) : Prop := Kept w wx ∧ ∀ x ∈ l, Blk wx x.1 x.2.1 x.2.2

section
variable {w wx w' w1 w2 w3 : World} {l : BlkList} {k : Nat} {cs : Array Value} {t : TypeId}
theorem In.start (w : World) : In w [] w := ⟨Kept.refl w, fun _ h => absurd h List.not_mem_nil⟩
theorem In.kept (h : In w l wx) (q : Kept wx w') : In w l w' := ⟨h.1.trans q, fun x m => (h.2 x m).kept q⟩
theorem In.drew (h : In w l wx) : In w l wx.drew := ⟨h.1.drew, fun x m => (h.2 x m).drew⟩
theorem In.drewN (h : In w l wx) (n : Nat) : In w l (wx.drewN n) := ⟨h.1.drewN n, fun x m => h.2 x m⟩
theorem In.alloc (h : In w l wx) (o : Obj) : In w l (wx.alloc o) := ⟨h.1.allocO o, fun x m => (h.2 x m).alloc o⟩
theorem In.mem (h : In w l wx) (m : (k, cs, t) ∈ l) : Blk wx k cs t := h.2 _ m
theorem In.lt (h : In w l wx) : ∀ x ∈ l, x.1 < wx.heap.size := fun x m => (h.2 x m).lt
theorem In.cons (h : In w l wx) (b : Blk wx k cs t) : In w ((k, cs, t) :: l) wx :=
  ⟨h.1, fun x m => by
    rcases List.mem_cons.1 m with rfl | m
    · exact b
    · exact h.2 x m⟩
/-- A block that is made, as it is written. -/
theorem In.fresh (h : In w l wx) (cs : Array Value) (t : TypeId) : In w ((wx.heap.size, cs, t) :: l) (wx.alloc (.cells cs t (0, 0))) := (h.alloc _).cons (Blk.fresh wx cs t)
theorem In.fresh' (h : In w l wx) (cs : Array Value) (t : TypeId) (e : k = wx.heap.size) : In w ((k, cs, t) :: l) (wx.alloc (.cells cs t (0, 0))) := (h.alloc _).cons (Blk.fresh' cs t e)
theorem In.tail {x : Nat × Array Value × TypeId} (h : In w (x :: l) wx) : In w l wx := ⟨h.1, fun y m => h.2 y (List.mem_cons_of_mem _ m)⟩
theorem In.other (h : In w l wx) {o : Nat} (hw : w.heap.size ≤ k) (n : ∀ x ∈ l, x.1 ≠ k) (v : Value) : In w l (wx.setCell ⟨k, o, none⟩ v) :=
  ⟨h.1.set hw v, fun x m => (h.2 x m).other (n x m) v⟩
theorem In.set6 {u0 u1 u2 u3 u4 u5 : Value} (h : In w l wx) (b : Blk wx k #[u0, u1, u2, u3, u4, u5] t) (hw : w.heap.size ≤ k) (n : ∀ x ∈ l, x.1 ≠ k) (v0 v1 v2 v3 v4 v5 : Value) :
    In w ((k, #[v0, v1, v2, v3, v4, v5], t) :: l) ((((((wx.setCell ⟨k, 0, none⟩ v0).setCell ⟨k, 1, none⟩ v1).setCell ⟨k, 2, none⟩ v2).setCell ⟨k, 3, none⟩ v3).setCell ⟨k, 4, none⟩ v4).setCell ⟨k, 5, none⟩ v5) := by
  refine In.cons ((((((h.other hw n v0).other hw n v1).other hw n v2).other hw n v3).other hw n v4).other hw n v5) ?_
  have := (((((b.set 0 v0).set 1 v1).set 2 v2).set 3 v3).set 4 v4).set 5 v5
  simpa using this
theorem In.set4 {u0 u1 u2 u3 : Value} (h : In w l wx) (b : Blk wx k #[u0, u1, u2, u3] t) (hw : w.heap.size ≤ k) (n : ∀ x ∈ l, x.1 ≠ k) (v0 v1 v2 v3 : Value) :
    In w ((k, #[v0, v1, v2, v3], t) :: l) ((((wx.setCell ⟨k, 0, none⟩ v0).setCell ⟨k, 1, none⟩ v1).setCell ⟨k, 2, none⟩ v2).setCell ⟨k, 3, none⟩ v3) :=
  In.cons ((((h.other hw n v0).other hw n v1).other hw n v2).other hw n v3) (b.set4 v0 v1 v2 v3)
/-- The block was made just ahead of the last call. -/
theorem In.ne_size (h : In w l wx) : ∀ x ∈ l, x.1 ≠ wx.heap.size := fun x m => Nat.ne_of_lt (h.lt x m)
end

end Go.Proofs.Ytakbhdhlcnpejaa

namespace Go.Proofs.Ytakbhdhlcnpejaa

theorem In.k {w wx : World} {l : BlkList} (h : In w l wx) : Kept w wx := h.1

end Go.Proofs.Ytakbhdhlcnpejaa

namespace Go.Proofs.Ytakbhdhlcnpejaa
open Go.RowKit

end Go.Proofs.Ytakbhdhlcnpejaa

namespace Go.Proofs.Ytakbhdhlcnpejaa
open Go.RowKit

end Go.Proofs.Ytakbhdhlcnpejaa
