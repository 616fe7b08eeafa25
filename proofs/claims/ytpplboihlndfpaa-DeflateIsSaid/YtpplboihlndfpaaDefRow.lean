/-
  Tokens that a call has laid one behind the other in an array of its own; tokens that lie somewhere.
-/
import Derived.Test.YtpplboihlndfpaaDefAhead
import Derived.Deep.AppendLies
namespace Go.Proofs.Ytpplboihlndfpaa
open Go.RowKit Dx
set_option linter.unusedSimpArgs false
set_option linter.unusedVariables false

def tokc (t : Tok) : List Value := [.int .u8 (t.lit.toNat : Int), .int .i64 t.len, .int .i64 t.dist]
def tokC (l : List Tok) : List Value := l.flatMap tokc
theorem tokC_len : ∀ l, (tokC l).length = 3 * l.length
  | [] => rfl
  | t :: r => by
    have := tokC_len r
    unfold tokC at this ⊢
    rw [List.flatMap_cons, List.length_append, this]; simp [tokc]; omega
theorem tokC_get : ∀ (l : List Tok) (i : Nat) (h : i < l.length) (q : Nat), q < 3 → (tokC l)[i * 3 + q]? = (tokc l[i])[q]?
  | [], i, h, q, _ => by simp at h
  | t :: r, 0, h, q, hq => by
    unfold tokC
    rw [List.flatMap_cons, List.getElem?_append_left (by simp [tokc]; omega)]; simp
  | t :: r, i + 1, h, q, hq => by
    have := tokC_get r i (by simpa using h) q hq
    unfold tokC at this ⊢
    rw [List.flatMap_cons, List.getElem?_append_right (by simp [tokc]; omega)]
    have e : (i + 1) * 3 + q - (tokc t).length = i * 3 + q := by simp [tokc]; omega
    rw [e, this]; rfl

/-- Tokens of the call's own. -/
def Toks (w : World) (B : Nat) (v : Value) (l : List Tok) : Prop := w.ownsRow B 38 3 v l.length (tokC l)
theorem info_tok : (Try.prog.info? 38).map (fun i => (i.zero, i.size, i.bytes)) = some (some (.agg #[.int .u8 0, .int .i64 0, .int .i64 0]), 3, 24) := by kernel_rfl
theorem Toks.nil (B : Nat) (w : World) (h : B ≤ w.heap.size) : Toks w B (.slice none 0 0) [] := World.ownsRow_nil _ _ _ _
theorem Toks.lt {w : World} {B : Nat} {v : Value} {l : List Tok} (h : Toks w B v l) : ∀ k, v.ownBlock = some k → B ≤ k ∧ k < w.heap.size := World.ownsRow.lt h
theorem Toks.gb {w w' : World} {B : Nat} {v : Value} {l : List Tok} (h : Toks w B v l) {r : Option Nat} (g : w.grownBy w' r) (hne : v.ownBlock = none ∨ v.ownBlock ≠ r) : Toks w' B v l := World.ownsRow.kept h g hne
theorem Toks.kept {w w' : World} {B : Nat} {v : Value} {l : List Tok} (h : Toks w B v l) (k : Kept w w') : Toks w' B v l :=
  h.gb (gbK k none) (by cases hv : v.ownBlock with
    | none => exact .inl rfl
    | some g => exact .inr (by simp))
theorem Toks.shape {w : World} {B : Nat} {v : Value} {l : List Tok} (h : Toks w B v l) : ∃ p cap, v = .slice p l.length cap ∧ l.length ≤ cap ∧ (p = none → l = []) := by
  rcases h.2 with ⟨rfl, h0⟩ | ⟨g, cap, cur, rfl, _, _, hn, _⟩
  · exact ⟨none, 0, by rw [h0], by omega, fun _ => List.length_eq_zero_iff.1 h0⟩
  · exact ⟨_, _, rfl, hn, fun e => by cases e⟩

/-- Where tokens lie. -/
def TokR (w : World) (B0 : Nat) (p : Option Addr) (l : List Tok) : Prop := ∀ i (h : i < l.length), ∃ k o, p = some ⟨k, o, none⟩ ∧ k < B0 ∧
  w.cell? ⟨k, o + i * 3, none⟩ = some (.int .u8 (l[i].lit.toNat : Int)) ∧ w.cell? ⟨k, o + i * 3 + 1, none⟩ = some (.int .i64 l[i].len) ∧ w.cell? ⟨k, o + i * 3 + 2, none⟩ = some (.int .i64 l[i].dist)
theorem TokR.keep {w w' : World} {B0 : Nat} {p : Option Addr} {l : List Tok} (h : TokR w B0 p l) (hB : B0 ≤ w.heap.size) (k : Kept w w') : TokR w' B0 p l := fun i hi => by
  obtain ⟨kb, o, hp, hk, h0, h1, h2⟩ := h i hi
  exact ⟨kb, o, hp, hk, by rw [← h0]; exact k.cells.1 _ _ (by omega), by rw [← h1]; exact k.cells.1 _ _ (by omega), by rw [← h2]; exact k.cells.1 _ _ (by omega)⟩
theorem TokR.mono {w : World} {B0 B1 : Nat} {p : Option Addr} {l : List Tok} (h : TokR w B0 p l) (hB : B0 ≤ B1) : TokR w B1 p l := fun i hi => by
  obtain ⟨kb, o, hp, hk, h0⟩ := h i hi
  exact ⟨kb, o, hp, by omega, h0⟩
theorem Toks.tokR {w : World} {B : Nat} {p : Option Addr} {n c : Nat} {l : List Tok} (h : Toks w B (.slice p n c) l) : TokR w w.heap.size p l := fun i hi => by
  have h0 := h
  rcases h.2 with ⟨_, h1⟩ | ⟨g, cap, cur, he, hb, hh, hn, hc, hs, ht⟩
  · omega
  · injection he with e1 e2 e3
    subst e1 e2 e3
    have hlt := (World.ownsRow.lt h0 g rfl).2
    have hl := tokC_len l
    have key : ∀ q, q < 3 → w.cell? ⟨g, i * 3 + q, none⟩ = (tokc l[i])[q]? := fun q hq => by
      rw [World.ownsRow.cellAt h0 (i * 3 + q) (by omega), tokC_get l i hi q hq]
    refine ⟨g, 0, rfl, hlt, ?_, ?_, ?_⟩
    · rw [Nat.zero_add]; exact key 0 (by decide)
    · rw [Nat.zero_add]; exact key 1 (by decide)
    · rw [Nat.zero_add]; exact key 2 (by decide)

set_option maxRecDepth 100000 in
theorem wpList_app_tok {ops : Array Oper} {rest : List Oper} {o : Oper} {a : Act} {Q : Exit → Act → World → Prop} (hgd : o.guard = none) (s x : Operand)
    (ho : o.op = .call { callee := .builtin .append, args := #[s, x], argTypes := #[30, 30] })
    {W : World} {B : Nat} {v : Value} {l : List Tok} (hown : Toks W B v l) (hs : a.eval s = v) (t : Tok) (cells : Array Value) (hc : cells = (tokc t).toArray)
    (hx : a.eval x = .slice (some ⟨W.heap.size, 0, none⟩) 1 1) (hB : B ≤ W.heap.size) (hlen : l.length ≤ 1099511627776)
    (h : ∀ g cap w', Toks w' B (.slice (some ⟨g, 0, none⟩) (l.length + 1) cap) (l ++ [t]) → (W.alloc (.cells cells 38)).grownBy w' v.ownBlock → (v.ownBlock = some g ∨ g = W.heap.size + 1) →
      wpList Try.prog ops Q rest (a.put o.dst (.slice (some ⟨g, 0, none⟩) (l.length + 1) cap)) w') :
    wpList Try.prog ops Q (o :: rest) a (W.alloc (.cells cells 38)) := by
  obtain ⟨i0, hi, hz0, hz1, hz2⟩ := info_parts info_tok
  subst hc
  refine wpList_append_lies _ hgd s x 30 ho B 38 i0 _ 3 24 Try.underlying30 hi hz0 hz1 hz2 rfl (by decide) v l.length (tokC l) hs (World.ownsRow.alloc hown _) ⟨W.heap.size, 0, none⟩ 1 1 (tokc t) hx rfl
    ?_ ?_ (by decide) (by unfold maxLen; omega) (by omega) (by simp; omega) (W.heap.size + 1) (by simp) ?_
  · intro j u hj
    rw [Addr.add_lit, Nat.zero_add]
    have := (Blk.fresh W (tokc t).toArray 38).cell j
    rw [this]
    simpa using hj
  · intro u hu
    simp only [tokc, List.mem_cons, List.not_mem_nil, or_false] at hu
    rcases hu with rfl | rfl | rfl <;> rfl
  · intro g cap w' h1 h2 h3 _
    refine h g cap w' ?_ h2 h3
    unfold Toks
    rw [List.length_append, show tokC (l ++ [t]) = tokC l ++ tokc t by unfold tokC; simp]
    exact h1

end Go.Proofs.Ytpplboihlndfpaa
