/-
  What blocks told so far, as it lies in memory; put, again, stored.
-/
import Derived.Test.YtpplboihlndfpaaInfTreeMem
import Derived.Test.YtpplboihlndfpaaInfBits
import Derived.OwnWalk
namespace Go.Proofs.Ytpplboihlndfpaa
open Go.RowKit Ix
set_option linter.unusedSimpArgs false
set_option linter.unusedVariables false

def bytsV (l : List UInt8) : List Value := l.map fun c => .int .u8 (c.toNat : Int)
/-- Bytes that the call itself has made. -/
def Out (w : World) (B : Nat) (v : Value) (l : List UInt8) : Prop := w.ownsRow B 5 1 v l.length (bytsV l)
theorem info_byte : (Try.prog.info? 5).map (fun i => (i.zero, i.size, i.bytes)) = some (some (.int .u8 0), 1, 1) := by kernel_rfl
theorem Out.lt {w : World} {B : Nat} {v : Value} {l : List UInt8} (h : Out w B v l) : ∀ k, v.ownBlock = some k → B ≤ k ∧ k < w.heap.size := World.ownsRow.lt h
theorem Out.gb {w w' : World} {B : Nat} {v : Value} {l : List UInt8} (h : Out w B v l) {r : Option Nat} (g : w.grownBy w' r) (hne : v.ownBlock = none ∨ v.ownBlock ≠ r) : Out w' B v l := World.ownsRow.kept h g hne
theorem Out.kept {w w' : World} {B : Nat} {v : Value} {l : List UInt8} (h : Out w B v l) (k : Kept w w') : Out w' B v l :=
  h.gb (gbK k none) (by cases hv : v.ownBlock with
    | none => exact .inl rfl
    | some g => exact .inr (by simp))
theorem Out.parts {w : World} {B : Nat} {v : Value} {l : List UInt8} (h : Out w B v l) :
    (v = .slice none 0 0 ∧ l = []) ∨ ∃ g cap, v = .slice (some ⟨g, 0, none⟩) l.length cap ∧ B ≤ g ∧ ∀ (m : Nat) (hm : m < l.length), w.cell? ⟨g, m, none⟩ = some (.int .u8 (l[m].toNat : Int)) := by
  have h0 := h
  rcases h.2 with ⟨rfl, h1⟩ | ⟨g, cap, cur, rfl, hb, hh, hn, hc, hs, ht⟩
  · exact .inl ⟨rfl, List.length_eq_zero_iff.1 h1⟩
  · refine .inr ⟨g, cap, rfl, hb, fun m hm => ?_⟩
    have := World.ownsRow.cellAt h0 m (by omega)
    rw [this]; simp [bytsV, hm]

theorem wpList_app_out {ops : Array Oper} {rest : List Oper} {o : Oper} {a : Act} {Q : Exit → Act → World → Prop} (hgd : o.guard = none) (s x : Operand)
    (ho : o.op = .call { callee := .builtin .append, args := #[s, x], argTypes := #[22, 22] })
    {W : World} {B : Nat} {v : Value} {l : List UInt8} (hown : Out W B v l) (c : UInt8) (hs : a.eval s = v)
    (hx : a.eval x = .slice (some ⟨W.heap.size, 0, none⟩) 1 1) (hB : B ≤ W.heap.size) (hlen : l.length + 1 ≤ 1099511627776)
    (h : ∀ g cap w', Out w' B (.slice (some ⟨g, 0, none⟩) (l.length + 1) cap) (l ++ [c]) → (W.alloc (.cells #[.int .u8 (c.toNat : Int)] 5)).grownBy w' v.ownBlock → (v.ownBlock = some g ∨ g = W.heap.size + 1) →
      wpList Try.prog ops Q rest (a.put o.dst (.slice (some ⟨g, 0, none⟩) (l.length + 1) cap)) w') :
    wpList Try.prog ops Q (o :: rest) a (W.alloc (.cells #[.int .u8 (c.toNat : Int)] 5)) := by
  obtain ⟨i0, hi, hz0, hz1, hz2⟩ := info_parts info_byte
  refine wpList_append_lies _ hgd s x 22 ho B 5 i0 (.int .u8 0) 1 1 Try.underlying22 hi hz0 hz1 hz2 rfl (by decide) v l.length (bytsV l) hs (World.ownsRow.alloc hown _) ⟨W.heap.size, 0, none⟩ 1 1 [.int .u8 (c.toNat : Int)] hx rfl
    ?_ ?_ (by decide) (by unfold maxLen; omega) (by omega) (by simp; omega) (W.heap.size + 1) (by simp) ?_
  · intro j u hj
    rw [Addr.add_lit, Nat.zero_add, (Blk.fresh W #[.int .u8 (c.toNat : Int)] 5).cell j]
    simpa using hj
  · intro u hu
    simp only [List.mem_singleton] at hu
    subst hu; rfl
  · intro g cap w' h1 h2 h3 _
    refine h g cap w' ?_ h2 h3
    unfold Out
    rw [List.length_append, show bytsV (l ++ [c]) = bytsV l ++ [.int .u8 (c.toNat : Int)] by simp [bytsV]]
    exact h1

/-- Nothing has turned but block b, and bytes of one's own. -/
structure Gr (w : World) (b : Nat) (v : Value) (w' : World) (v' : Value) : Prop where
  os : w'.os = w.os
  tape : w'.tape = w.tape
  output : w'.output = w.output
  size : w.heap.size ≤ w'.heap.size
  block : ∀ j, j < w.heap.size → j ≠ b → v.ownBlock ≠ some j → w'.heap[j]? = w.heap[j]?
  at' : v'.ownBlock = v.ownBlock ∨ ∃ g, v'.ownBlock = some g ∧ w.heap.size ≤ g
theorem Gr.refl (w : World) (b : Nat) (v : Value) : Gr w b v w v := ⟨rfl, rfl, rfl, Nat.le_refl _, fun _ _ _ _ => rfl, .inl rfl⟩
theorem Gr.trans {w w1 w2 : World} {b : Nat} {v v1 v2 : Value} (h : Gr w b v w1 v1) (k : Gr w1 b v1 w2 v2) : Gr w b v w2 v2 := by
  refine ⟨k.os.trans h.os, k.tape.trans h.tape, k.output.trans h.output, Nat.le_trans h.size k.size, fun j hj hb hv => ?_, ?_⟩
  · refine (k.block j (Nat.lt_of_lt_of_le hj h.size) hb ?_).trans (h.block j hj hb hv)
    rcases h.at' with e | ⟨g, e, hg⟩
    · rw [e]; exact hv
    · rw [e]; intro e2; injection e2 with e2; omega
  · rcases k.at' with e | ⟨g, e, hg⟩
    · rcases h.at' with e2 | ⟨g, e2, hg⟩
      · exact .inl (e.trans e2)
      · exact .inr ⟨g, e.trans e2, hg⟩
    · exact .inr ⟨g, e, Nat.le_trans h.size hg⟩
theorem Gr.ofGb {w w' : World} {b : Nat} {v : Value} (g : w.grownBy w' (some b)) : Gr w b v w' v := ⟨g.os, g.tape, g.output, g.size, fun j hj hb _ => g.block j hj (by simpa using hb), .inl rfl⟩
theorem Gr.ofKept {w w' : World} {b : Nat} {v : Value} (k : Kept w w') : Gr w b v w' v := Gr.ofGb (gbK k _)
theorem Gr.below {w w' : World} {b : Nat} {v v' : Value} (h : Gr w b v w' v') (hv : ∀ k, v.ownBlock = some k → b ≤ k) (hb : b ≤ w.heap.size) : Below b w w' :=
  ⟨h.os, h.tape, h.output, h.size, fun j hj => h.block j (by omega) (by omega) (fun e => by have := hv j e; omega)⟩

section
variable {w w' : World} {B0 b : Nat} {p : Option Addr} {c : Nat} {B : List UInt8} {t t' : Nat} {v gv : Value} {out : List UInt8}
end

end Go.Proofs.Ytpplboihlndfpaa
