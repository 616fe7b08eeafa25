/-
  The next token of what is left of a text.
-/
import Derived.Test.YtakbhdhlcnpejaaXBase
import Derived.Test.YtakbhdhlcnpejaaCosNum
namespace Go.Proofs.Ytakbhdhlcnpejaa
open Go.RowKit Cx
attribute [local go_sem ↓] Go.wp_at_zero Go.wp_at_succ

theorem gb_kept {w w' : World} (k : Kept w w') (r : Option Nat) : w.grownBy w' r := ⟨k.os, k.tape, k.output, k.size, fun j hj _ => k.block j hj⟩

theorem gb_setAt (w : World) (k o : Nat) (v : Value) : w.grownBy (w.setCell ⟨k, o, none⟩ v) (some k) :=
  ⟨rfl, rfl, rfl, by simp, fun j _ hn => Below.heap_setCell w ⟨k, o, none⟩ v j (fun h => hn (by rw [h]))⟩

theorem gb_fresh {a b : World} {r : Option Nat} (h : a.grownBy b r) {k o : Nat} (hk : a.heap.size ≤ k) (v : Value) : a.grownBy (b.setCell ⟨k, o, none⟩ v) r :=
  ⟨h.os, h.tape, h.output, by have := h.size; simpa using this, fun j hj hn => (Below.heap_setCell b ⟨k, o, none⟩ v j (by simp; omega)).trans (h.block j hj hn)⟩

theorem gb_own {a b : World} {k : Nat} (h : a.grownBy b (some k)) (o : Nat) (v : Value) : a.grownBy (b.setCell ⟨k, o, none⟩ v) (some k) :=
  ⟨h.os, h.tape, h.output, by have := h.size; simpa using this, fun j hj hn => (Below.heap_setCell b ⟨k, o, none⟩ v j (fun e => hn (by simp at e; rw [e]))).trans (h.block j hj hn)⟩

theorem gb_alloc {a b : World} {r : Option Nat} (h : a.grownBy b r) (o : Obj) : a.grownBy (b.alloc o) r :=
  ⟨h.os, h.tape, h.output, by have := h.size; simp; omega, fun j hj hn => (Below.heap_alloc b o j (by have := h.size; omega)).trans (h.block j hj hn)⟩

theorem gb_drew {a b : World} {r : Option Nat} (h : a.grownBy b r) : a.grownBy b.drew r := ⟨h.os, h.tape, h.output, h.size, h.block⟩

theorem gb_drewN {a b : World} {r : Option Nat} (h : a.grownBy b r) (n : Nat) : a.grownBy (b.drewN n) r := ⟨h.os, h.tape, h.output, h.size, h.block⟩

theorem gb_thenK {a b c : World} {r : Option Nat} (h : a.grownBy b r) (k : Kept b c) : a.grownBy c r := gb_trans h (gb_kept k r)

end Go.Proofs.Ytakbhdhlcnpejaa
