/-
  The objects up to what ends them: what the rest's upTo answers, if it is so of each object within.
-/
import Derived.Test.YtakbhdhlcnpejaaCosRows
import Derived.Test.YtakbhdhlcnpejaaCosEnds
namespace Go.Proofs.Ytakbhdhlcnpejaa
open Go.RowKit Cx

/-- A token of the text s, or its like. -/
def TokOk (s : ByteArray) (t : Lx.Tok) : Prop := t.to ≤ s.size ∧ (-2147483648 ≤ t.f ∧ t.f ≤ 2147483648) ∧ t.s.length ≤ s.size
theorem tokOk_next (s : ByteArray) (a : Int) : TokOk s (Lx.nextV s.data.toList a).2 := by
  have h1 := Lx.next_to s.data.toList a
  have h2 := Lx.next_len s.data.toList a
  have hl : s.data.toList.length = s.size := by simp
  rw [hl] at h1 h2
  exact ⟨h1, ⟨h2.1, h2.2.1⟩, h2.2.2⟩

section
variable {α β : Type} {K : Kind α} {nm : α → β} {s : ByteArray} {dep rb : Nat} {w w' : World} {Y : Int × List β × Nat}
end

theorem gb_thenOwn {a b c : World} {rb : Nat} {r : Option Nat} (h : a.grownBy b (some rb)) (g : b.grownBy c r) (hr : ∀ k, r = some k → a.heap.size ≤ k) : a.grownBy c (some rb) :=
  ⟨g.os.trans h.os, g.tape.trans h.tape, g.output.trans h.output, Nat.le_trans h.size g.size, fun j hj hn => (g.block j (Nat.lt_of_lt_of_le hj h.size) (fun e => by have := hr j e.symm; omega)).trans (h.block j hj hn)⟩

theorem obj_to {F : Nat} {s : ByteArray} {dep : Nat} {t : Lx.Tok} (ht : t.to ≤ s.size) (h : (objOf F s.data.toList dep t).1 = 0) : t.to ≤ (objOf F s.data.toList dep t).2.2 ∧ (objOf F s.data.toList dep t).2.2 ≤ s.size := by
  have hl : s.data.toList.length = s.size := by simp
  have := (ends_all s.data.toList F).1 dep t (by rw [hl]; exact ht) h
  rwa [hl] at this
theorem ent_to {F : Nat} {s : ByteArray} {dep : Nat} {t : Lx.Tok} (ht : t.to ≤ s.size) (h : (entOf F s.data.toList dep t).1 = 0) : t.to ≤ (entOf F s.data.toList dep t).2.2 ∧ (entOf F s.data.toList dep t).2.2 ≤ s.size := by
  have hl : s.data.toList.length = s.size := by simp
  have := (ends_all s.data.toList F).2.2.2 dep t (by rw [hl]; exact ht) h
  rwa [hl] at this

end Go.Proofs.Ytakbhdhlcnpejaa
