/-
  Objects, and entries, that a call has laid one behind the other in an array of its own.
-/
import Derived.Test.YtakbhdhlcnpejaaCosNumber
import Derived.Deep.AppendLies
import Derived.OwnWalk
namespace Go.Proofs.Ytakbhdhlcnpejaa
open Go.RowKit Cx

/-- What a row is made of: an element's cells, its object, and where that lies. -/
structure Kind (α : Type) where
  size : Nat
  pos : 0 < size
  cells : α → List Value
  len : ∀ a, (cells a).length = size
  one : ∀ a, ∀ u ∈ cells a, u.oneCell' = true
  ob : α → Ob
  hd : α → Hd
  ty : TypeId
  ts : TypeId
def Kind.flat {α : Type} (K : Kind α) (rs : List α) : List Value := rs.flatMap K.cells
def KO : Kind (Ob × Hd) := ⟨6, by decide, fun r => cells6 r.1 r.2, fun _ => rfl, fun r => oneCell6 r.1 r.2, fun r => r.1, fun r => r.2, 27, 24⟩
def KE : Kind (Entr × Hd) := ⟨7, by decide, fun r => cells7 r.1 r.2, fun _ => rfl, fun r => oneCell7 r.1 r.2, fun r => r.1.2, fun r => r.2, 85, 25⟩

theorem info_obj : (Try.prog.info? 27).map (fun i => (i.zero, i.size, i.bytes)) = some (some (.agg #[.int .i64 0, .int .i64 0, .int .i64 0, .string ⟨#[]⟩, .slice none 0 0, .slice none 0 0]), 6, 88) := by kernel_rfl
theorem info_ent : (Try.prog.info? 85).map (fun i => (i.zero, i.size, i.bytes)) = some (some (.agg #[.string ⟨#[]⟩, .int .i64 0, .int .i64 0, .int .i64 0, .string ⟨#[]⟩, .slice none 0 0, .slice none 0 0]), 7, 104) := by kernel_rfl

structure OwnK {α : Type} (K : Kind α) (N : Nat) (w : World) (v : Value) (acc : List α) : Prop where
  own : w.ownsRow N K.ty K.size v acc.length (K.flat acc)
  lies : ∀ r ∈ acc, Lies (Cel (fun b => N ≤ b ∧ some b ≠ v.ownBlock) w) (K.ob r) (K.hd r)

section
variable {α : Type} {K : Kind α} {N : Nat} {w w' : World} {v : Value} {acc : List α}
theorem OwnK.nil (K : Kind α) (N : Nat) (w : World) : OwnK K N w (.slice none 0 0) [] := ⟨World.ownsRow_nil _ _ _ _, fun _ h => absurd h List.not_mem_nil⟩
theorem OwnK.gb {r : Option Nat} (h : OwnK K N w v acc) (g : w.grownBy w' r) (hr : ∀ k, r = some k → k < N) : OwnK K N w' v acc := by
  have hne : ∀ b, N ≤ b → some b ≠ r := fun b hb e => by have := hr b e.symm; omega
  refine ⟨h.own.kept g ?_, fun x hx => (h.lies x hx).keep fun b hb hlt => ⟨hb, g.block b hlt (hne b hb.1)⟩⟩
  cases hv : v.ownBlock with
  | none => exact .inl rfl
  | some b => exact .inr (hne b (h.own.lt b hv).1)
theorem OwnK.kept (h : OwnK K N w v acc) (k : Kept w w') : OwnK K N w' v acc := h.gb (gb_kept k none) (fun _ e => by cases e)
theorem OwnK.shape (h : OwnK K N w v acc) : ∃ p cap, v = .slice p acc.length cap := by
  rcases h.own.2 with ⟨rfl, h0⟩ | ⟨g, cap, cur, rfl, _⟩
  · exact ⟨none, 0, by rw [h0]⟩
  · exact ⟨_, _, rfl⟩
theorem OwnK.app {g cap M : Nat} {x : α} {c : Obj} (h : OwnK K N w v acc) (hx : Lies (Cel (fun b => M ≤ b) w) (K.ob x) (K.hd x)) (hM : ∀ b, v.ownBlock = some b → b < M) (hNM : N ≤ M)
    (own' : w'.ownsRow N K.ty K.size (.slice (some ⟨g, 0, none⟩) (acc.length + 1) cap) (acc.length + 1) (K.flat acc ++ K.cells x)) (hg : (w.alloc c).grownBy w' v.ownBlock) (hl : v.ownBlock = some g ∨ g = w.heap.size + 1) :
    OwnK K N w' (.slice (some ⟨g, 0, none⟩) (acc.length + 1) cap) (acc ++ [x]) := by
  have hflat : K.flat (acc ++ [x]) = K.flat acc ++ K.cells x := by unfold Kind.flat; rw [List.flatMap_append]; simp
  refine ⟨by rw [hflat, List.length_append]; exact own', fun r hr => ?_⟩
  have key : ∀ b, b < w.heap.size → some b ≠ v.ownBlock → some b ≠ Value.ownBlock (.slice (some ⟨g, 0, none⟩) (acc.length + 1) cap) ∧ w'.heap[b]? = w.heap[b]? := fun b hb hn => by
    refine ⟨?_, (hg.block b (by simp; omega) hn).trans (Below.heap_alloc w c b hb)⟩
    simp only [Value.ownBlock]
    intro e
    rcases hl with e' | e'
    · exact hn (by rw [e, e'])
    · simp only [Option.some.injEq] at e; omega
  rcases List.mem_append.1 hr with hr | hr
  · exact (h.lies r hr).keep fun b hb hlt => ⟨⟨hb.1, (key b hlt hb.2).1⟩, (key b hlt hb.2).2⟩
  · obtain rfl : r = x := by simpa using hr
    refine hx.keep fun b hb hlt => ?_
    have hn : some b ≠ v.ownBlock := fun e => by have := hM b e.symm; omega
    exact ⟨⟨by omega, (key b hlt hn).1⟩, (key b hlt hn).2⟩
theorem OwnK.row {p : Option Addr} {cap : Nat} (h : OwnK K N w (.slice p acc.length cap) acc) (i : Nat) (hi : i < acc.length) : ∃ b, p = some ⟨b, 0, none⟩ ∧ RowAt (Cel (fun b => N ≤ b) w) b (0 + i * K.size) (K.cells acc[i]) := by
  obtain ⟨g, cap', hv, hb⟩ : ∃ g cap', (Value.slice p acc.length cap) = .slice (some ⟨g, 0, none⟩) acc.length cap' ∧ N ≤ g := by
    rcases h.own.2 with ⟨_, h0⟩ | ⟨g, cap', cur, hv, hb, _⟩
    · omega
    · exact ⟨g, cap', hv, hb⟩
  obtain ⟨rfl, rfl⟩ : p = some ⟨g, 0, none⟩ ∧ cap = cap' := by injection hv with e1 _ e3; exact ⟨e1, e3⟩
  refine ⟨g, rfl, fun j u hj => ⟨hb, ?_⟩⟩
  have hjl : j < K.size := by
    have := (List.getElem?_eq_some_iff.1 hj).1
    rwa [K.len] at this
  have := h.own.cells (g := g) rfl (i * K.size + j) u (by unfold Kind.flat; rw [flat_get K.cells K.size K.len acc i j hi hjl]; exact hj)
  rw [Addr.add_lit] at this
  rw [show 0 + i * K.size + j = 0 + (i * K.size + j) by omega]; exact this
end

/-- The array that is made of such a row. -/
theorem OwnK.arr {N : Nat} {w : World} {p : Option Addr} {cap : Nat} {acc : List (Ob × Hd)} (h : OwnK KO N w (.slice p acc.length cap) acc) (hlen : acc.length ≤ maxLen) (k n f : Int) :
    Lies (Cel (fun b => N ≤ b) w) (.mk k n f ⟨#[]⟩ (acc.map (·.1)) []) ⟨p, cap, none, 0⟩ := by
  refine .mk k n f ⟨#[]⟩ _ [] _ (fun i => if hi : i < acc.length then acc[i].2 else Hd.none) (fun _ => Hd.none) ⟨by simpa using hlen, Nat.zero_le _, Nat.zero_le _⟩ ?_ ?_ (fun _ hi => absurd hi (Nat.not_lt_zero _)) (fun _ hi => absurd hi (Nat.not_lt_zero _)) (fun _ hi => absurd hi (Nat.not_lt_zero _))
  · intro i hi
    have hi' : i < acc.length := by simpa using hi
    rw [List.getElem_map, dif_pos hi']
    exact (h.lies _ (List.getElem_mem hi')).weak fun _ hb => hb.1
  · intro i hi
    have hi' : i < acc.length := by simpa using hi
    obtain ⟨b, hp, hr⟩ := h.row i hi'
    refine ⟨b, 0, hp, ?_⟩
    rw [List.getElem_map, dif_pos hi']
    exact hr

theorem OwnK.dict {N : Nat} {w : World} {p : Option Addr} {cap : Nat} {acc : List (Entr × Hd)} (h : OwnK KE N w (.slice p acc.length cap) acc) (hlen : acc.length ≤ maxLen) (hks : ∀ r ∈ acc, r.1.1.size ≤ maxLen) (k n f : Int) :
    Lies (Cel (fun b => N ≤ b) w) (.mk k n f ⟨#[]⟩ [] (acc.map (·.1))) ⟨none, 0, p, cap⟩ := by
  refine .mk k n f ⟨#[]⟩ [] _ _ (fun _ => Hd.none) (fun i => if hi : i < acc.length then acc[i].2 else Hd.none) ⟨Nat.zero_le _, by simpa using hlen, Nat.zero_le _⟩ (fun _ hi => absurd hi (Nat.not_lt_zero _)) (fun _ hi => absurd hi (Nat.not_lt_zero _)) ?_ ?_ ?_
  · intro i hi
    have hi' : i < acc.length := by simpa using hi
    rw [dif_pos hi']
    simp only [List.getElem_map]
    exact (h.lies _ (List.getElem_mem hi')).weak fun _ hb => hb.1
  · intro i hi
    have hi' : i < acc.length := by simpa using hi
    simp only [List.getElem_map]
    exact hks _ (List.getElem_mem hi')
  · intro i hi
    have hi' : i < acc.length := by simpa using hi
    obtain ⟨b, hp, hr⟩ := h.row i hi'
    refine ⟨b, 0, hp, ?_⟩
    rw [dif_pos hi']
    simp only [List.getElem_map]
    exact hr

set_option maxRecDepth 100000 in
/-- 'append(l, x)' to such a row, at the walk's list of operations. -/
theorem wpList_app_obj {ops : Array Oper} {rest : List Oper} {o : Oper} {a : Act} {Q : Exit → Act → World → Prop} (hgd : o.guard = none) (s x : Operand)
    (ho : o.op = .call { callee := .builtin .append, args := #[s, x], argTypes := #[24, 24] })
    {W : World} (N : Nat) {v : Value} (acc : List (Ob × Hd)) (hown : OwnK KO N W v acc) (hs : a.eval s = v) (r : Ob × Hd) (cells : Array Value) (hc : cells = (cells6 r.1 r.2).toArray)
    (H : Nat) (hH : W.heap.size = H) (hx : a.eval x = .slice (some ⟨H, 0, none⟩) 1 1) (hB : N ≤ W.heap.size) (hlen : acc.length ≤ 4294967296)
    (h : ∀ g cap w', w'.ownsRow N 27 6 (.slice (some ⟨g, 0, none⟩) (acc.length + 1) cap) (acc.length + 1) (KO.flat acc ++ KO.cells r) → (W.alloc (.cells cells 27)).grownBy w' v.ownBlock → (v.ownBlock = some g ∨ g = W.heap.size + 1) → g < w'.heap.size →
      wpList Try.prog ops Q rest (a.put o.dst (.slice (some ⟨g, 0, none⟩) (acc.length + 1) cap)) w') :
    wpList Try.prog ops Q (o :: rest) a (W.alloc (.cells cells 27)) := by
  obtain ⟨i0, hi, hz0, hz1, hz2⟩ := info_parts info_obj
  subst hc
  subst hH
  refine wpList_append_lies _ hgd s x 24 ho N 27 i0 _ 6 88 Try.underlying24 hi hz0 hz1 hz2 rfl (by decide) v acc.length (KO.flat acc) hs (hown.own.alloc _) ⟨W.heap.size, 0, none⟩ 1 1 (cells6 r.1 r.2) hx rfl
    ?_ (oneCell6 _ _) (by decide) (by unfold maxLen; omega) (by omega) (by simp; omega) (W.heap.size + 1) (by simp) h
  intro j u hj
  rw [Addr.add_lit, Nat.zero_add]
  have := (Blk.fresh W (cells6 r.1 r.2).toArray 27).cell j
  rw [this]
  simpa using hj
set_option maxRecDepth 100000 in
theorem wpList_app_ent {ops : Array Oper} {rest : List Oper} {o : Oper} {a : Act} {Q : Exit → Act → World → Prop} (hgd : o.guard = none) (s x : Operand)
    (ho : o.op = .call { callee := .builtin .append, args := #[s, x], argTypes := #[25, 25] })
    {W : World} (N : Nat) {v : Value} (acc : List (Entr × Hd)) (hown : OwnK KE N W v acc) (hs : a.eval s = v) (r : Entr × Hd) (cells : Array Value) (hc : cells = (cells7 r.1 r.2).toArray)
    (H : Nat) (hH : W.heap.size = H) (hx : a.eval x = .slice (some ⟨H, 0, none⟩) 1 1) (hB : N ≤ W.heap.size) (hlen : acc.length ≤ 4294967296)
    (h : ∀ g cap w', w'.ownsRow N 85 7 (.slice (some ⟨g, 0, none⟩) (acc.length + 1) cap) (acc.length + 1) (KE.flat acc ++ KE.cells r) → (W.alloc (.cells cells 85)).grownBy w' v.ownBlock → (v.ownBlock = some g ∨ g = W.heap.size + 1) → g < w'.heap.size →
      wpList Try.prog ops Q rest (a.put o.dst (.slice (some ⟨g, 0, none⟩) (acc.length + 1) cap)) w') :
    wpList Try.prog ops Q (o :: rest) a (W.alloc (.cells cells 85)) := by
  obtain ⟨i0, hi, hz0, hz1, hz2⟩ := info_parts info_ent
  subst hc
  subst hH
  refine wpList_append_lies _ hgd s x 25 ho N 85 i0 _ 7 104 Try.underlying25 hi hz0 hz1 hz2 rfl (by decide) v acc.length (KE.flat acc) hs (hown.own.alloc _) ⟨W.heap.size, 0, none⟩ 1 1 (cells7 r.1 r.2) hx rfl
    ?_ (oneCell7 _ _) (by decide) (by unfold maxLen; omega) (by omega) (by simp; omega) (W.heap.size + 1) (by simp) h
  intro j u hj
  rw [Addr.add_lit, Nat.zero_add]
  have := (Blk.fresh W (cells7 r.1 r.2).toArray 85).cell j
  rw [this]
  simpa using hj

end Go.Proofs.Ytakbhdhlcnpejaa
