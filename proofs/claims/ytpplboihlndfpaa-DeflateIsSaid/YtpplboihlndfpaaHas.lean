/-
  'In w l wx': behind w lies wx: nothing that was there has turned, and the blocks of the list l are known whole. How a block that a statement makes joins the list, in whatever order it was made.
-/
import Derived.Test.YtpplboihlndfpaaBlk
namespace Go.Proofs.Ytpplboihlndfpaa
open Go.RowKit

abbrev BlkList := List (Nat × Array Value × TypeId)
def In (w : World) (l : BlkList) (wx : World) : Prop := Kept w wx ∧ ∀ x ∈ l, Blk wx x.1 x.2.1 x.2.2

section
variable {w wx w' w1 w2 w3 : World} {l : BlkList} {k : Nat} {cs : Array Value} {t : TypeId}
theorem In.start (w : World) : In w [] w := ⟨Kept.refl w, fun _ h => absurd h List.not_mem_nil⟩
theorem In.kept (h : In w l wx) (q : Kept wx w') : In w l w' := ⟨h.1.trans q, fun x m => (h.2 x m).kept q⟩
theorem In.drew (h : In w l wx) : In w l wx.drew := ⟨h.1.drew, fun x m => (h.2 x m).drew⟩
theorem In.drewN (h : In w l wx) (n : Nat) : In w l (wx.drewN n) := ⟨h.1.drewN n, fun x m => h.2 x m⟩
theorem In.alloc (h : In w l wx) (o : Obj) : In w l (wx.alloc o) := ⟨h.1.allocO o, fun x m => (h.2 x m).alloc o⟩
theorem In.mem (h : In w l wx) (m : (k, cs, t) ∈ l) : Blk wx k cs t := h.2 _ m
theorem In.lt (h : In w l wx) : ∀ x ∈ l, x.1 < wx.heap.size := fun x m => (h.2 x m).lt
theorem In.cons (h : In w l wx) (b : Blk wx k cs t) : In w ((k, cs, t) :: l) wx :=
  ⟨h.1, fun x m => by
    rcases List.mem_cons.1 m with rfl | m
    · exact b
    · exact h.2 x m⟩
/-- A block that is made, as it is written. -/
theorem In.fresh (h : In w l wx) (cs : Array Value) (t : TypeId) : In w ((wx.heap.size, cs, t) :: l) (wx.alloc (.cells cs t (0, 0))) := (h.alloc _).cons (Blk.fresh wx cs t)
theorem In.fresh' (h : In w l wx) (cs : Array Value) (t : TypeId) (e : k = wx.heap.size) : In w ((k, cs, t) :: l) (wx.alloc (.cells cs t (0, 0))) := (h.alloc _).cons (Blk.fresh' cs t e)
theorem In.tail {x : Nat × Array Value × TypeId} (h : In w (x :: l) wx) : In w l wx := ⟨h.1, fun y m => h.2 y (List.mem_cons_of_mem _ m)⟩
theorem In.other (h : In w l wx) {o : Nat} (hw : w.heap.size ≤ k) (n : ∀ x ∈ l, x.1 ≠ k) (v : Value) : In w l (wx.setCell ⟨k, o, none⟩ v) :=
  ⟨h.1.set hw v, fun x m => (h.2 x m).other (n x m) v⟩
theorem In.set6 {u0 u1 u2 u3 u4 u5 : Value} (h : In w l wx) (b : Blk wx k #[u0, u1, u2, u3, u4, u5] t) (hw : w.heap.size ≤ k) (n : ∀ x ∈ l, x.1 ≠ k) (v0 v1 v2 v3 v4 v5 : Value) :
    In w ((k, #[v0, v1, v2, v3, v4, v5], t) :: l) ((((((wx.setCell ⟨k, 0, none⟩ v0).setCell ⟨k, 1, none⟩ v1).setCell ⟨k, 2, none⟩ v2).setCell ⟨k, 3, none⟩ v3).setCell ⟨k, 4, none⟩ v4).setCell ⟨k, 5, none⟩ v5) := by
  refine In.cons ((((((h.other hw n v0).other hw n v1).other hw n v2).other hw n v3).other hw n v4).other hw n v5) ?_
  have := (((((b.set 0 v0).set 1 v1).set 2 v2).set 3 v3).set 4 v4).set 5 v5
  simpa using this
theorem In.set4 {u0 u1 u2 u3 : Value} (h : In w l wx) (b : Blk wx k #[u0, u1, u2, u3] t) (hw : w.heap.size ≤ k) (n : ∀ x ∈ l, x.1 ≠ k) (v0 v1 v2 v3 : Value) :
    In w ((k, #[v0, v1, v2, v3], t) :: l) ((((wx.setCell ⟨k, 0, none⟩ v0).setCell ⟨k, 1, none⟩ v1).setCell ⟨k, 2, none⟩ v2).setCell ⟨k, 3, none⟩ v3) :=
  In.cons ((((h.other hw n v0).other hw n v1).other hw n v2).other hw n v3) (b.set4 v0 v1 v2 v3)
/-- The block was made just ahead of the last call. -/
theorem In.ne_size (h : In w l wx) : ∀ x ∈ l, x.1 ≠ wx.heap.size := fun x m => Nat.ne_of_lt (h.lt x m)
end

end Go.Proofs.Ytpplboihlndfpaa
