/-
  What the rest's numberOf answers: a Num, or the Ref that it begins.
-/
import Derived.Test.YtakbhdhlcnpejaaCosRef
namespace Go.Proofs.Ytakbhdhlcnpejaa
open Go.RowKit Cx

theorem numberV_eq (l : List UInt8) (t : Lx.Tok) : numberV l t = if wholeT t && refB l t.to then (refO t l t.to, (Lx.nextV l (Lx.nextV l t.to).2.to).2.to) else (numV t, t.to) := by
  unfold numberV refO refB
  rw [Lx.tokOf_next, Lx.tokOf_next]
  cases h1 : wholeT t <;> cases h2 : wholeT (Lx.nextV l (t.to : Int)).2 <;> cases h3 : isW (Lx.nextV l ((Lx.nextV l (t.to : Int)).2.to : Int)).2 [82] <;> simp

theorem gb_new {w w' : World} {o : Obj} (h : (w.alloc o).grownBy w' (some w.heap.size)) : Kept w w' :=
  ⟨h.os, h.tape, h.output, by have := h.size; simp at this; omega, fun j hj => by
    rw [h.block j (by simp; omega) (by simp; omega)]; exact Below.heap_alloc w o j hj⟩

end Go.Proofs.Ytakbhdhlcnpejaa
