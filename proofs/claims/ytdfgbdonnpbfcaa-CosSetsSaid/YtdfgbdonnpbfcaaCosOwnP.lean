/-
  Entries that are older than the call, in an array of its own.
-/
import Derived.Test.YtdfgbdonnpbfcaaCosGet
import Derived.Test.YtdfgbdonnpbfcaaCosRows
namespace Go.Proofs.Ytdfgbdonnpbfcaa
open Go.RowKit Cx

structure OwnP {α : Type} (K : Kind α) (P : Nat → Prop) (N : Nat) (w : World) (v : Value) (acc : List α) : Prop where
  own : w.ownsRow N K.ty K.size v acc.length (K.flat acc)
  lies : ∀ r ∈ acc, Lies (Cel (fun b => P b ∧ b < N) w) (K.ob r) (K.hd r)
  base : N ≤ w.heap.size

section
variable {α : Type} {K : Kind α} {P : Nat → Prop} {N : Nat} {w w' : World} {v : Value} {acc : List α}
theorem OwnP.gb {r : Option Nat} (h : OwnP K P N w v acc) (g : w.grownBy w' r) (hr : ∀ k, r = some k → N ≤ k) (hne : v.ownBlock = none ∨ v.ownBlock ≠ r) : OwnP K P N w' v acc :=
  ⟨h.own.kept g hne, fun x hx => (h.lies x hx).keep fun b hb hlt => ⟨hb, g.block b hlt (fun e => by have := hr b e.symm; omega)⟩, Nat.le_trans h.base g.size⟩
theorem OwnP.kept (h : OwnP K P N w v acc) (k : Kept w w') : OwnP K P N w' v acc := by
  refine h.gb (gb_kept k none) (fun _ e => by cases e) ?_
  cases v.ownBlock <;> simp
theorem OwnP.lt (h : OwnP K P N w v acc) : ∀ k, v.ownBlock = some k → N ≤ k ∧ k < w.heap.size := h.own.lt
theorem OwnP.shape (h : OwnP K P N w v acc) : ∃ p cap, v = .slice p acc.length cap := by
  rcases h.own.2 with ⟨rfl, h0⟩ | ⟨g, cap, cur, rfl, _⟩
  · exact ⟨none, 0, by rw [h0]⟩
  · exact ⟨_, _, rfl⟩
theorem OwnP.app {g cap : Nat} {x : α} {c : Obj} (h : OwnP K P N w v acc) (hx : Lies (Cel (fun b => P b ∧ b < N) w) (K.ob x) (K.hd x))
    (own' : w'.ownsRow N K.ty K.size (.slice (some ⟨g, 0, none⟩) (acc.length + 1) cap) (acc.length + 1) (K.flat acc ++ K.cells x)) (hg : (w.alloc c).grownBy w' v.ownBlock) :
    OwnP K P N w' (.slice (some ⟨g, 0, none⟩) (acc.length + 1) cap) (acc ++ [x]) := by
  have hflat : K.flat (acc ++ [x]) = K.flat acc ++ K.cells x := by unfold Kind.flat; rw [List.flatMap_append]; simp
  have key : ∀ b, b < w.heap.size → b < N → w'.heap[b]? = w.heap[b]? := fun b hb hn =>
    (hg.block b (by simp; omega) (fun e => by have := (h.lt b e.symm).1; omega)).trans (Below.heap_alloc w c b hb)
  refine ⟨by rw [hflat, List.length_append]; exact own', fun r hr => ?_, Nat.le_trans h.base (by have := hg.size; simp at this; omega)⟩
  rcases List.mem_append.1 hr with hr | hr
  · exact (h.lies r hr).keep fun b hb hlt => ⟨hb, key b hlt hb.2⟩
  · obtain rfl : r = x := by simpa using hr
    exact hx.keep fun b hb hlt => ⟨hb, key b hlt hb.2⟩
theorem OwnP.row {p : Option Addr} {cap : Nat} (h : OwnP K P N w (.slice p acc.length cap) acc) (i : Nat) (hi : i < acc.length) : ∃ b, p = some ⟨b, 0, none⟩ ∧ RowAt (Cel (fun b => P b ∨ N ≤ b) w) b (0 + i * K.size) (K.cells acc[i]) := by
  obtain ⟨g, cap', hv, hb⟩ : ∃ g cap', (Value.slice p acc.length cap) = .slice (some ⟨g, 0, none⟩) acc.length cap' ∧ N ≤ g := by
    rcases h.own.2 with ⟨_, h0⟩ | ⟨g, cap', cur, hv, hb, _⟩
    · omega
    · exact ⟨g, cap', hv, hb⟩
  obtain ⟨rfl, rfl⟩ : p = some ⟨g, 0, none⟩ ∧ cap = cap' := by injection hv with e1 _ e3; exact ⟨e1, e3⟩
  refine ⟨g, rfl, fun j u hj => ⟨.inr hb, ?_⟩⟩
  have hjl : j < K.size := by
    have := (List.getElem?_eq_some_iff.1 hj).1
    rwa [K.len] at this
  have := h.own.cells (g := g) rfl (i * K.size + j) u (by unfold Kind.flat; rw [flat_get K.cells K.size K.len acc i j hi hjl]; exact hj)
  rw [Addr.add_lit] at this
  rw [show 0 + i * K.size + j = 0 + (i * K.size + j) by omega]; exact this
end

theorem OwnP.dict {P : Nat → Prop} {N : Nat} {w : World} {p : Option Addr} {cap : Nat} {acc : List (Entr × Hd)} (h : OwnP KE P N w (.slice p acc.length cap) acc) (hlen : acc.length ≤ maxLen) (hks : ∀ r ∈ acc, r.1.1.size ≤ maxLen) :
    Lies (Cel (fun b => P b ∨ N ≤ b) w) (dictO (acc.map (·.1))) ⟨none, 0, p, cap⟩ := by
  refine .mk 6 0 0 ⟨#[]⟩ [] _ _ (fun _ => Hd.none) (fun i => if hi : i < acc.length then acc[i].2 else Hd.none) ⟨Nat.zero_le _, by simpa using hlen, Nat.zero_le _⟩ (fun _ hi => absurd hi (Nat.not_lt_zero _)) (fun _ hi => absurd hi (Nat.not_lt_zero _)) ?_ ?_ ?_
  · intro i hi
    have hi' : i < acc.length := by simpa using hi
    rw [dif_pos hi']
    simp only [List.getElem_map]
    exact (h.lies _ (List.getElem_mem hi')).weak fun _ hb => .inl hb.1
  · intro i hi
    have hi' : i < acc.length := by simpa using hi
    simp only [List.getElem_map]
    exact hks _ (List.getElem_mem hi')
  · intro i hi
    have hi' : i < acc.length := by simpa using hi
    obtain ⟨b, hp, hr⟩ := h.row i hi'
    refine ⟨b, 0, hp, ?_⟩
    rw [dif_pos hi']
    simp only [List.getElem_map]
    exact hr

/-- An object with other entries. -/
theorem Lies.withD {R : Cells} {o : Ob} {h : Hd} {d : List Entr} {q : Option Addr} {e : Nat} (hl : Lies R o h) (hd : Lies R (dictO d) ⟨none, 0, q, e⟩) : Lies R (.mk o.k o.n o.f o.s o.l d) ⟨h.p, h.c, q, e⟩ := by
  generalize hx : dictO d = x at hd
  generalize hy : (⟨none, 0, q, e⟩ : Hd) = y at hd
  cases hl with
  | mk k n f s l d0 h H E hk hl hlc hd0 hds0 hdc0 =>
    cases hd with
    | mk k' n' f' s' l' d' h' H' E' hk' hl' hlc' hd' hds' hdc' =>
      unfold dictO at hx
      obtain ⟨_, _, _, _, _, rfl⟩ := Ob.mk.inj hx
      subst hy
      exact .mk k n f s l d ⟨h.p, h.c, q, e⟩ H E' ⟨hk.1, hk'.2.1, hk.2.2⟩ hl hlc hd' hds' hdc'

set_option maxRecDepth 100000 in
theorem wpList_app_entP {ops : Array Oper} {rest : List Oper} {o : Oper} {a : Act} {Q : Exit → Act → World → Prop} (hgd : o.guard = none) (s x : Operand)
    (ho : o.op = .call { callee := .builtin .append, args := #[s, x], argTypes := #[24, 24] })
    {W : World} (P : Nat → Prop) (N : Nat) {v : Value} (acc : List (Entr × Hd)) (hown : OwnP KE P N W v acc) (hs : a.eval s = v) (r : Entr × Hd) (cells : Array Value) (hc : cells = (cells7 r.1 r.2).toArray)
    (H : Nat) (hH : W.heap.size = H) (hx : a.eval x = .slice (some ⟨H, 0, none⟩) 1 1) (hlen : acc.length ≤ 4294967296)
    (h : ∀ g cap w', w'.ownsRow N 34 7 (.slice (some ⟨g, 0, none⟩) (acc.length + 1) cap) (acc.length + 1) (KE.flat acc ++ KE.cells r) → (W.alloc (.cells cells 34)).grownBy w' v.ownBlock →
      wpList Try.prog ops Q rest (a.put o.dst (.slice (some ⟨g, 0, none⟩) (acc.length + 1) cap)) w') :
    wpList Try.prog ops Q (o :: rest) a (W.alloc (.cells cells 34)) := by
  obtain ⟨i0, hi, hz0, hz1, hz2⟩ := info_parts info_ent
  subst hc
  subst hH
  refine wpList_append_lies _ hgd s x 24 ho N 34 i0 _ 7 104 Try.underlying24 hi hz0 hz1 hz2 rfl (by decide) v acc.length (KE.flat acc) hs (hown.own.alloc _) ⟨W.heap.size, 0, none⟩ 1 1 (cells7 r.1 r.2) hx rfl
    ?_ (oneCell7 _ _) (by decide) (by unfold maxLen; omega) (by omega) (by have := hown.base; simp; omega) (W.heap.size + 1) (by simp) (fun g cap w' h1 h2 _ _ => h g cap w' h1 h2)
  intro j u hj
  rw [Addr.add_lit, Nat.zero_add]
  have := (Blk.fresh W (cells7 r.1 r.2).toArray 34).cell j
  rw [this]
  simpa using hj

end Go.Proofs.Ytdfgbdonnpbfcaa
