/-
  'InR w rb l wx': behind w lies wx: nothing but block rb has turned, and the blocks of the list l are known whole. What the rest's refOf and numberOf answer.
-/
import Derived.Test.YtakbhdhlcnpejaaCosToken
namespace Go.Proofs.Ytakbhdhlcnpejaa
open Go.RowKit Cx

def InR (w : World) (rb : Nat) (l : BlkList) (wx : World) : Prop := w.grownBy wx (some rb) ∧ (∀ x ∈ l, Blk wx x.1 x.2.1 x.2.2 ∧ x.1 ≠ rb) ∧ rb < w.heap.size

section
variable {w wx w' : World} {rb k : Nat} {l : BlkList} {cs : Array Value} {t : TypeId}
theorem InR.start (w : World) {rb : Nat} (h : rb < w.heap.size) : InR w rb [] w := ⟨gb_refl _ _, fun _ h => absurd h List.not_mem_nil, h⟩
theorem InR.gb (h : InR w rb l wx) (g : wx.grownBy w' (some rb)) : InR w rb l w' := ⟨gb_trans h.1 g, fun x m => ⟨(h.2.1 x m).1.gb g (by simpa using (h.2.1 x m).2), (h.2.1 x m).2⟩, h.2.2⟩
theorem InR.kept (h : InR w rb l wx) (q : Kept wx w') : InR w rb l w' := h.gb (gb_kept q _)
theorem InR.drew (h : InR w rb l wx) : InR w rb l wx.drew := ⟨gb_drew h.1, h.2.1, h.2.2⟩
theorem InR.drewN (h : InR w rb l wx) (n : Nat) : InR w rb l (wx.drewN n) := ⟨gb_drewN h.1 n, h.2.1, h.2.2⟩
theorem InR.alloc (h : InR w rb l wx) (o : Obj) : InR w rb l (wx.alloc o) := h.gb (World.grownBy_alloc _ _ _)
theorem InR.mem (h : InR w rb l wx) (m : (k, cs, t) ∈ l) : Blk wx k cs t := (h.2.1 _ m).1
theorem InR.lt (h : InR w rb l wx) : rb < wx.heap.size := Nat.lt_of_lt_of_le h.2.2 h.1.size
theorem InR.fresh' (h : InR w rb l wx) (cs : Array Value) (t : TypeId) (e : k = wx.heap.size) : InR w rb ((k, cs, t) :: l) (wx.alloc (.cells cs t (0, 0))) :=
  ⟨(h.alloc _).1, fun x m => by
    rcases List.mem_cons.1 m with rfl | m
    · exact ⟨Blk.fresh' cs t e, by have := h.lt; simp only []; omega⟩
    · exact (h.alloc _).2.1 x m, h.2.2⟩
theorem InR.fresh (h : InR w rb l wx) (cs : Array Value) (t : TypeId) : InR w rb ((wx.heap.size, cs, t) :: l) (wx.alloc (.cells cs t (0, 0))) := h.fresh' cs t rfl
theorem InR.own (h : InR w rb l wx) (o : Nat) (v : Value) : InR w rb l (wx.setCell ⟨rb, o, none⟩ v) := h.gb (gb_setAt _ _ _ _)
theorem InR.g (h : InR w rb l wx) : w.grownBy wx (some rb) := h.1
end

/-- The Ref that begins with a number, if the rest of one is next: is it one? -/
def refB (l : List UInt8) (a : Int) : Bool := wholeT (Lx.nextV l a).2 && isW (Lx.nextV l (Lx.nextV l a).2.to).2 [82]
def refO (n : Lx.Tok) (l : List UInt8) (a : Int) : Ob := if refB l a then .mk 7 (n.f.tdiv 1000) (Lx.nextV l a).2.f ⟨#[]⟩ [] [] else nul
theorem whole_ok {l : List UInt8} {a : Int} (h : wholeT (Lx.nextV l a).2 = true) : (Lx.nextV l a).1 = 0 := by
  by_cases e : (Lx.nextV l a).1 = 0
  · exact e
  · rw [Lx.next_zero_of l a e] at h; exact absurd h (by decide)
theorem isW_ok {l : List UInt8} {a : Int} {s : List UInt8} (h : isW (Lx.nextV l a).2 s = true) : (Lx.nextV l a).1 = 0 := by
  by_cases e : (Lx.nextV l a).1 = 0
  · exact e
  · rw [Lx.next_zero_of l a e] at h; exact absurd h (by simp [isW, Lx.zero])

end Go.Proofs.Ytakbhdhlcnpejaa
