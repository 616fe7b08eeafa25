/-
  Entries that are older than the call, in an array of its own.
  What package cos's Set answers.
  An entry of the call's own gets another object.
  Entries in an array of the call's own: one is put whole, what stands behind is cleared.
  slices.DeleteFunc over entries in an array of the call's own, whatever is asked of each.
  What package cos's settled answers.
-/
import Derived.Test.YtbgdeaeikijdgaaGreatDoorCosGet
import Derived.Test.YtbgdeaeikijdgaaGreatDoorCosRows
import Derived.Lib.SliceRun
import Derived.Test.YtbgdeaeikijdgaaGreatDoorLexM
import Derived.Test.YtbgdeaeikijdgaaGreatDoorCosIdx
import Derived.Test.YtbgdeaeikijdgaaGreatDoorCosP
namespace Go.Proofs.YtbgdeaeikijdgaaGreatDoor
open Go.RowKit Cx

structure OwnP {α : Type} (K : Kind α) (P : Nat → Prop) (N : Nat) (w : World) (v : Value) (acc : List α) : Prop where
  own : w.ownsRow N K.ty K.size v acc.length (K.flat acc)
  lies : ∀ r ∈ acc, Lies (Cel (fun b => P b ∧ b < N) w) (K.ob r) (K.hd r)
  base : N ≤ w.heap.size

section
variable {α : Type} {K : Kind α} {P : Nat → Prop} {N : Nat} {w w' : World} {v : Value} {acc : List α}
theorem OwnP.gb {r : Option Nat} (h : OwnP K P N w v acc) (g : w.grownBy w' r) (hr : ∀ k, r = some k → N ≤ k) (hne : v.ownBlock = none ∨ v.ownBlock ≠ r) : OwnP K P N w' v acc :=
  ⟨h.own.kept g hne, fun x hx => (h.lies x hx).keep fun b hb hlt => ⟨hb, g.block b hlt (fun e => by have := hr b e.symm; omega)⟩, Nat.le_trans h.base g.size⟩
theorem OwnP.kept (h : OwnP K P N w v acc) (k : Kept w w') : OwnP K P N w' v acc := by
  refine h.gb (gb_kept k none) (fun _ e => by cases e) ?_
  cases v.ownBlock <;> simp
theorem OwnP.lt (h : OwnP K P N w v acc) : ∀ k, v.ownBlock = some k → N ≤ k ∧ k < w.heap.size := h.own.lt
theorem OwnP.shape (h : OwnP K P N w v acc) : ∃ p cap, v = .slice p acc.length cap := by
  rcases h.own.2 with ⟨rfl, h0⟩ | ⟨g, cap, cur, rfl, _⟩
  · exact ⟨none, 0, by rw [h0]⟩
  · exact ⟨_, _, rfl⟩
theorem OwnP.app {g cap : Nat} {x : α} {c : Obj} (h : OwnP K P N w v acc) (hx : Lies (Cel (fun b => P b ∧ b < N) w) (K.ob x) (K.hd x))
    (own' : w'.ownsRow N K.ty K.size (.slice (some ⟨g, 0, none⟩) (acc.length + 1) cap) (acc.length + 1) (K.flat acc ++ K.cells x)) (hg : (w.alloc c).grownBy w' v.ownBlock) :
    OwnP K P N w' (.slice (some ⟨g, 0, none⟩) (acc.length + 1) cap) (acc ++ [x]) := by
  have hflat : K.flat (acc ++ [x]) = K.flat acc ++ K.cells x := by unfold Kind.flat; rw [List.flatMap_append]; simp
  have key : ∀ b, b < w.heap.size → b < N → w'.heap[b]? = w.heap[b]? := fun b hb hn =>
    (hg.block b (by simp; omega) (fun e => by have := (h.lt b e.symm).1; omega)).trans (Below.heap_alloc w c b hb)
  refine ⟨by rw [hflat, List.length_append]; exact own', fun r hr => ?_, Nat.le_trans h.base (by have := hg.size; simp at this; omega)⟩
  rcases List.mem_append.1 hr with hr | hr
  · exact (h.lies r hr).keep fun b hb hlt => ⟨hb, key b hlt hb.2⟩
  · obtain rfl : r = x := by simpa using hr
    exact hx.keep fun b hb hlt => ⟨hb, key b hlt hb.2⟩
theorem OwnP.row {p : Option Addr} {cap : Nat} (h : OwnP K P N w (.slice p acc.length cap) acc) (i : Nat) (hi : i < acc.length) : ∃ b, p = some ⟨b, 0, none⟩ ∧ RowAt (Cel (fun b => P b ∨ N ≤ b) w) b (0 + i * K.size) (K.cells acc[i]) := by
  obtain ⟨g, cap', hv, hb⟩ : ∃ g cap', (Value.slice p acc.length cap) = .slice (some ⟨g, 0, none⟩) acc.length cap' ∧ N ≤ g := by
    rcases h.own.2 with ⟨_, h0⟩ | ⟨g, cap', cur, hv, hb, _⟩
    · omega
    · exact ⟨g, cap', hv, hb⟩
  obtain ⟨rfl, rfl⟩ : p = some ⟨g, 0, none⟩ ∧ cap = cap' := by injection hv with e1 _ e3; exact ⟨e1, e3⟩
  refine ⟨g, rfl, fun j u hj => ⟨.inr hb, ?_⟩⟩
  have hjl : j < K.size := by
    have := (List.getElem?_eq_some_iff.1 hj).1
    rwa [K.len] at this
  have := h.own.cells (g := g) rfl (i * K.size + j) u (by unfold Kind.flat; rw [flat_get K.cells K.size K.len acc i j hi hjl]; exact hj)
  rw [Addr.add_lit] at this
  rw [show 0 + i * K.size + j = 0 + (i * K.size + j) by omega]; exact this
end

theorem OwnP.dict {P : Nat → Prop} {N : Nat} {w : World} {p : Option Addr} {cap : Nat} {acc : List (Entr × Hd)} (h : OwnP KE P N w (.slice p acc.length cap) acc) (hlen : acc.length ≤ maxLen) (hks : ∀ r ∈ acc, r.1.1.size ≤ maxLen) :
    Lies (Cel (fun b => P b ∨ N ≤ b) w) (dictO (acc.map (·.1))) ⟨none, 0, p, cap⟩ := by
  refine .mk 6 0 0 ⟨#[]⟩ [] _ _ (fun _ => Hd.none) (fun i => if hi : i < acc.length then acc[i].2 else Hd.none) ⟨Nat.zero_le _, by simpa using hlen, Nat.zero_le _⟩ (fun _ hi => absurd hi (Nat.not_lt_zero _)) (fun _ hi => absurd hi (Nat.not_lt_zero _)) ?_ ?_ ?_
  · intro i hi
    have hi' : i < acc.length := by simpa using hi
    rw [dif_pos hi']
    simp only [List.getElem_map]
    exact (h.lies _ (List.getElem_mem hi')).weak fun _ hb => .inl hb.1
  · intro i hi
    have hi' : i < acc.length := by simpa using hi
    simp only [List.getElem_map]
    exact hks _ (List.getElem_mem hi')
  · intro i hi
    have hi' : i < acc.length := by simpa using hi
    obtain ⟨b, hp, hr⟩ := h.row i hi'
    refine ⟨b, 0, hp, ?_⟩
    rw [dif_pos hi']
    simp only [List.getElem_map]
    exact hr

/-- An object with other entries. -/
theorem Lies.withD {R : Cells} {o : Ob} {h : Hd} {d : List Entr} {q : Option Addr} {e : Nat} (hl : Lies R o h) (hd : Lies R (dictO d) ⟨none, 0, q, e⟩) : Lies R (.mk o.k o.n o.f o.s o.l d) ⟨h.p, h.c, q, e⟩ := by
  generalize hx : dictO d = x at hd
  generalize hy : (⟨none, 0, q, e⟩ : Hd) = y at hd
  cases hl with
  | mk k n f s l d0 h H E hk hl hlc hd0 hds0 hdc0 =>
    cases hd with
    | mk k' n' f' s' l' d' h' H' E' hk' hl' hlc' hd' hds' hdc' =>
      unfold dictO at hx
      obtain ⟨_, _, _, _, _, rfl⟩ := Ob.mk.inj hx
      subst hy
      exact .mk k n f s l d ⟨h.p, h.c, q, e⟩ H E' ⟨hk.1, hk'.2.1, hk.2.2⟩ hl hlc hd' hds' hdc'

set_option maxRecDepth 100000 in
theorem wpList_app_entP {ops : Array Oper} {rest : List Oper} {o : Oper} {a : Act} {Q : Exit → Act → World → Prop} (hgd : o.guard = none) (s x : Operand)
    (ho : o.op = .call { callee := .builtin .append, args := #[s, x], argTypes := #[41, 41] })
    {W : World} (P : Nat → Prop) (N : Nat) {v : Value} (acc : List (Entr × Hd)) (hown : OwnP KE P N W v acc) (hs : a.eval s = v) (r : Entr × Hd) (cells : Array Value) (hc : cells = (cells7 r.1 r.2).toArray)
    (H : Nat) (hH : W.heap.size = H) (hx : a.eval x = .slice (some ⟨H, 0, none⟩) 1 1) (hlen : acc.length ≤ 4294967296)
    (h : ∀ g cap w', w'.ownsRow N 143 7 (.slice (some ⟨g, 0, none⟩) (acc.length + 1) cap) (acc.length + 1) (KE.flat acc ++ KE.cells r) → (W.alloc (.cells cells 143)).grownBy w' v.ownBlock →
      wpList Tryz.prog ops Q rest (a.put o.dst (.slice (some ⟨g, 0, none⟩) (acc.length + 1) cap)) w') :
    wpList Tryz.prog ops Q (o :: rest) a (W.alloc (.cells cells 143)) := by
  obtain ⟨i0, hi, hz0, hz1, hz2⟩ := info_parts info_ent
  subst hc
  subst hH
  refine wpList_append_lies _ hgd s x 41 ho N 143 i0 _ 7 104 Tryz.underlying41 hi hz0 hz1 hz2 rfl (by decide) v acc.length (KE.flat acc) hs (hown.own.alloc _) ⟨W.heap.size, 0, none⟩ 1 1 (cells7 r.1 r.2) hx rfl
    ?_ (oneCell7 _ _) (by decide) (by unfold maxLen; omega) (by omega) (by have := hown.base; simp; omega) (W.heap.size + 1) (by simp) (fun g cap w' h1 h2 _ _ => h g cap w' h1 h2)
  intro j u hj
  rw [Addr.add_lit, Nat.zero_add]
  have := (Blk.fresh W (cells7 r.1 r.2).toArray 143).cell j
  rw [this]
  simpa using hj

end Go.Proofs.YtbgdeaeikijdgaaGreatDoor

namespace Go.Proofs.YtbgdeaeikijdgaaGreatDoor
open Go.RowKit Cx

theorem In.gbOwn {w wx w' : World} {l : BlkList} {r : Option Nat} (h : In w l wx) (g : wx.grownBy w' r) (hr : ∀ k, r = some k → w.heap.size ≤ k ∧ ∀ x ∈ l, x.1 ≠ k) : In w l w' :=
  ⟨⟨g.os.trans h.1.os, g.tape.trans h.1.tape, g.output.trans h.1.output, Nat.le_trans h.1.size g.size, fun j hj => (g.block j (Nat.lt_of_lt_of_le hj h.1.size) (fun e => by have := (hr j e.symm).1; omega)).trans (h.1.block j hj)⟩,
   fun x m => (h.2 x m).gb g (fun e => (hr x.1 e.symm).2 x m rfl)⟩

end Go.Proofs.YtbgdeaeikijdgaaGreatDoor

namespace Go.Proofs.YtbgdeaeikijdgaaGreatDoor
open Go.RowKit Cx

theorem flat_setE (x : Ob) (h : Hd) : ∀ (rows : List (Entr × Hd)) (i : Nat) (e : ByteArray), (∀ hi : i < rows.length, rows[i].1.1 = e) →
    KE.flat (rows.set i ((e, x), h)) = ((((((KE.flat rows).set (i * 7 + 1) (.int .i64 x.k)).set (i * 7 + 2) (.int .i64 x.n)).set (i * 7 + 3) (.int .i64 x.f)).set (i * 7 + 4) (.string x.s)).set (i * 7 + 5) (.slice h.p x.l.length h.c)).set (i * 7 + 6) (.slice h.q x.d.length h.e)
  | [], _, _, _ => by simp [Kind.flat]
  | a :: r, 0, e, he => by
    obtain rfl : a.1.1 = e := he (by simp)
    rfl
  | a :: r, i + 1, e, he => by
    have ih := flat_setE x h r i e (fun hi => he (by simpa using hi))
    have e1 : ∀ q, (i + 1) * 7 + q = i * 7 + q + 1 + 1 + 1 + 1 + 1 + 1 + 1 := fun q => by omega
    rw [e1 1, e1 2, e1 3, e1 4, e1 5, e1 6]
    show cells7 a.1 a.2 ++ KE.flat (r.set i ((e, x), h)) = _
    rw [ih]
    rfl

theorem OwnP.put {P : Nat → Prop} {N : Nat} {w : World} {g cap : Nat} {acc : List (Entr × Hd)} (h : OwnP KE P N w (.slice (some ⟨g, 0, none⟩) acc.length cap) acc) (i : Nat) (hi : i < acc.length) (x : Ob) (d : Hd) (hx : Lies (Cel (fun b => P b ∧ b < N) w) x d) :
    OwnP KE P N ((((((w.setCell ⟨g, i * 7 + 1, none⟩ (.int .i64 x.k)).setCell ⟨g, i * 7 + 2, none⟩ (.int .i64 x.n)).setCell ⟨g, i * 7 + 3, none⟩ (.int .i64 x.f)).setCell ⟨g, i * 7 + 4, none⟩ (.string x.s)).setCell ⟨g, i * 7 + 5, none⟩ (.slice d.p x.l.length d.c)).setCell ⟨g, i * 7 + 6, none⟩ (.slice d.q x.d.length d.e)) (.slice (some ⟨g, 0, none⟩) acc.length cap) (acc.set i ((acc[i].1.1, x), d)) := by
  have hg := (h.own.lt g rfl).1
  have s1 := h.own.stored (i * 7 + 1) (.int .i64 x.k)
  have s2 := s1.1.stored (i * 7 + 2) (.int .i64 x.n)
  have s3 := s2.1.stored (i * 7 + 3) (.int .i64 x.f)
  have s4 := s3.1.stored (i * 7 + 4) (.string x.s)
  have s5 := s4.1.stored (i * 7 + 5) (.slice d.p x.l.length d.c)
  have s6 := s5.1.stored (i * 7 + 6) (.slice d.q x.d.length d.e)
  have hf := flat_setE x d acc i acc[i].1.1 (fun _ => rfl)
  have hn : ∀ b, (P b ∧ b < N) → b ≠ g := fun b hb e => by have := hb.2; omega
  have keep : ∀ {o : Ob} {e : Hd}, Lies (Cel (fun b => P b ∧ b < N) w) o e → Lies (Cel (fun b => P b ∧ b < N) ((((((w.setCell ⟨g, i * 7 + 1, none⟩ (.int .i64 x.k)).setCell ⟨g, i * 7 + 2, none⟩ (.int .i64 x.n)).setCell ⟨g, i * 7 + 3, none⟩ (.int .i64 x.f)).setCell ⟨g, i * 7 + 4, none⟩ (.string x.s)).setCell ⟨g, i * 7 + 5, none⟩ (.slice d.p x.l.length d.c)).setCell ⟨g, i * 7 + 6, none⟩ (.slice d.q x.d.length d.e))) o e :=
    fun hl => (((((hl.set hn _).set hn _).set hn _).set hn _).set hn _).set hn _
  refine ⟨?_, fun r hr => ?_, ?_⟩
  · rw [hf, List.length_set]; exact s6.1
  · rcases List.mem_or_eq_of_mem_set hr with hr | rfl
    · exact keep (h.lies r hr)
    · exact keep hx
  · have := h.base
    simpa using this

/-- The stores turn that row's block and no other. -/
theorem OwnP.put_gb {P : Nat → Prop} {N : Nat} {w : World} {g cap : Nat} {acc : List (Entr × Hd)} (h : OwnP KE P N w (.slice (some ⟨g, 0, none⟩) acc.length cap) acc) (i : Nat) (x : Ob) (d : Hd) :
    w.grownBy ((((((w.setCell ⟨g, i * 7 + 1, none⟩ (.int .i64 x.k)).setCell ⟨g, i * 7 + 2, none⟩ (.int .i64 x.n)).setCell ⟨g, i * 7 + 3, none⟩ (.int .i64 x.f)).setCell ⟨g, i * 7 + 4, none⟩ (.string x.s)).setCell ⟨g, i * 7 + 5, none⟩ (.slice d.p x.l.length d.c)).setCell ⟨g, i * 7 + 6, none⟩ (.slice d.q x.d.length d.e)) (some g) := by
  have s1 := h.own.stored (i * 7 + 1) (.int .i64 x.k)
  have s2 := s1.1.stored (i * 7 + 2) (.int .i64 x.n)
  have s3 := s2.1.stored (i * 7 + 3) (.int .i64 x.f)
  have s4 := s3.1.stored (i * 7 + 4) (.string x.s)
  have s5 := s4.1.stored (i * 7 + 5) (.slice d.p x.l.length d.c)
  have s6 := s5.1.stored (i * 7 + 6) (.slice d.q x.d.length d.e)
  have tr : ∀ {a b c : World}, a.grownBy b (some g) → b.grownBy c (some g) → a.grownBy c (some g) := fun g1 g2 =>
    ⟨g2.os.trans g1.os, g2.tape.trans g1.tape, g2.output.trans g1.output, Nat.le_trans g1.size g2.size, fun k hk hne => (g2.block k (Nat.lt_of_lt_of_le hk g1.size) hne).trans (g1.block k hk hne)⟩
  exact tr (tr (tr (tr (tr s1.2 s2.2) s3.2) s4.2) s5.2) s6.2

end Go.Proofs.YtbgdeaeikijdgaaGreatDoor

namespace Go.Proofs.YtbgdeaeikijdgaaGreatDoor
open Go.RowKit Cx


theorem Kept.gbOwn {w wx w' : World} {r : Option Nat} (h : Kept w wx) (g : wx.grownBy w' r) (hr : ∀ k, r = some k → w.heap.size ≤ k) : Kept w w' :=
  ⟨g.os.trans h.os, g.tape.trans h.tape, g.output.trans h.output, Nat.le_trans h.size g.size, fun j hj => (g.block j (Nat.lt_of_lt_of_le hj h.size) (fun e => by have := hr j e.symm; omega)).trans (h.block j hj)⟩

theorem mem_zeroCells {z : Array Value} {n : Nat} {u : Value} (h : u ∈ (Builtin.zeroCells z n).toList) : u ∈ z.toList := by
  unfold Builtin.zeroCells at h
  rw [Array.mem_toList_iff, Array.mem_map] at h
  obtain ⟨i, hi, rfl⟩ := h
  rw [Array.mem_range] at hi
  have hz : 0 < z.size := by
    rcases Nat.eq_zero_or_pos z.size with e | e
    · rw [e] at hi; omega
    · exact e
  have hm := Nat.mod_lt i hz
  rw [getElem!_pos z (i % z.size) hm]
  exact Array.getElem_mem_toList hm

theorem run_clear_cells {P : Program} (w : World) (t e ty : TypeId) (z : Value) (ht : P.underlying t = some (.slice e)) (hv : ∀ w, (zeroValue e).run P w = .ok z w) (h1 : ∀ u ∈ z.cells.toList, u.oneCell' = true) (b o n c : Nat) (hn : 0 < n)
    (hc : ∀ j, j < n * z.cells.size → (w.cell? ⟨b, o + j, none⟩).isSome = true) (hf : ∀ j, j < n * z.cells.size → w.frozen? ⟨b, o + j, none⟩ = false) :
    (Builtin.clear_ #[t] ty #[.slice (some ⟨b, o, none⟩) n c]).run P w = .ok (.tuple #[]) (w.setCells b o (Builtin.zeroCells z.cells n).toList) := by
  have hl : (Builtin.zeroCells z.cells n).toList.length = n * z.cells.size := by rw [Array.length_toList, size_zeroCells]
  have hst := run_storeCells_cells (P := P) b o (Builtin.zeroCells z.cells n).toList 0 w (by rw [hl]; simpa using hc) (by rw [hl]; simpa using hf) (fun u hu => h1 u (mem_zeroCells hu))
  simp only [Nat.add_zero] at hst
  obtain ⟨m, rfl⟩ : ∃ m, n = m + 1 := ⟨n - 1, by omega⟩
  simp [Builtin.clear_, run_underlying ht, hv, hst]

theorem setCells_row (g : Nat) (e : TypeId) : ∀ (vs : List Value) (o : Nat) (w : World) (cur : Array Value), w.heap[g]? = some (.cells cur e (0, 0)) →
    ∃ cur', (w.setCells g o vs).heap[g]? = some (.cells cur' e (0, 0)) ∧ cur'.size = cur.size ∧ ∀ k, k ≤ o → cur'.toList.take k = cur.toList.take k
  | [], _, _, cur, h => ⟨cur, h, rfl, fun _ _ => rfl⟩
  | v :: r, o, w, cur, h => by
    obtain ⟨c', h1, h2, h3⟩ := setCells_row g e r (o + 1) (w.setCell ⟨g, o, none⟩ v) _ (heap_setCell_same w g o cur e v h)
    refine ⟨c', h1, by rw [h2, Array.size_setIfInBounds], fun k hk => ?_⟩
    rw [h3 k (by omega), Array.toList_setIfInBounds, List.take_set, List.set_eq_of_length_le]
    rw [List.length_take]; omega
theorem setCells_gb (g : Nat) : ∀ (vs : List Value) (o : Nat) (w : World), w.grownBy (w.setCells g o vs) (some g)
  | [], _, w => gb_refl w _
  | v :: r, o, w => by
    have g1 : w.grownBy (w.setCell ⟨g, o, none⟩ v) (some g) := ⟨rfl, rfl, rfl, by simp, fun k _ hk => heap_setCell_other w ⟨g, o, none⟩ k v (fun e => hk (by simp [e]))⟩
    have g2 := setCells_gb g r (o + 1) (w.setCell ⟨g, o, none⟩ v)
    exact ⟨g2.os.trans g1.os, g2.tape.trans g1.tape, g2.output.trans g1.output, Nat.le_trans g1.size g2.size, fun k hk hne => (g2.block k (Nat.lt_of_lt_of_le hk g1.size) hne).trans (g1.block k hk hne)⟩

theorem flat_take {α : Type} (K : Kind α) : ∀ (rows : List α) (i : Nat), K.flat (rows.take i) = (K.flat rows).take (i * K.size)
  | [], i => by simp [Kind.flat]
  | a :: r, 0 => by simp [Kind.flat]
  | a :: r, i + 1 => by
    have ih := flat_take K r i
    unfold Kind.flat at ih ⊢
    have e : (K.cells a).take ((i + 1) * K.size) = K.cells a := List.take_of_length_le (by rw [K.len, Nat.succ_mul]; omega)
    rw [List.take_succ_cons, List.flatMap_cons, List.flatMap_cons, ih, List.take_append, K.len, show (i + 1) * K.size - K.size = i * K.size by rw [Nat.succ_mul]; omega, e]

theorem OwnP.clear {P : Nat → Prop} {N : Nat} {w : World} {g cap : Nat} {acc : List (Entr × Hd)} (h : OwnP KE P N w (.slice (some ⟨g, 0, none⟩) acc.length cap) acc) (i : Nat) (hi : i ≤ acc.length) (vs : List Value) :
    OwnP KE P N (w.setCells g (i * 7) vs) (.slice (some ⟨g, 0, none⟩) i cap) (acc.take i) := by
  have hg := (h.own.lt g rfl).1
  have hb := setCells_gb g vs (i * 7) w
  have hlen : (acc.take i).length = i := by rw [List.length_take]; omega
  refine ⟨?_, fun r hr => (h.lies r (List.mem_of_mem_take hr)).keep fun b hb' hlt => ⟨hb', hb.block b hlt (fun e => by injection e with e; have := hb'.2; omega)⟩, Nat.le_trans h.base hb.size⟩
  have hfl := (flat_len KE.cells KE.size KE.len (acc.take i))
  refine ⟨hfl, .inr ?_⟩
  rcases h.own.2 with ⟨h', _⟩ | ⟨g', cap', cur, h', h1, h2, h3, h4, h5, h6⟩
  · cases h'
  · injection h' with e1 _ e3
    injection e1 with e1
    injection e1 with e1
    subst e1
    subst e3
    obtain ⟨cur', c1, c2, c3⟩ := setCells_row g _ vs (i * 7) w cur h2
    refine ⟨g, cap, cur', by rw [hlen], h1, c1, by rw [hlen]; omega, h4, by rw [c2, h5], ?_⟩
    rw [hlen, c3 (i * KE.size) (Nat.le_refl (i * 7)), flat_take, ← h6, List.take_take]
    congr 1
    have : i * KE.size ≤ acc.length * KE.size := Nat.mul_le_mul_right _ hi
    omega

theorem zero_ent (w : World) : (zeroValue 143).run Tryz.prog w = .ok (.agg #[.string ⟨#[]⟩, .int .i64 0, .int .i64 0, .int .i64 0, .string ⟨#[]⟩, .slice none 0 0, .slice none 0 0]) w := by kernel_rfl

set_option maxRecDepth 100000 in
theorem run_clear_entP {W : World} {P : Nat → Prop} {N g cap n : Nat} {acc : List (Entr × Hd)} (hown : OwnP KE P N W (.slice (some ⟨g, 0, none⟩) n cap) acc) (hn : n = acc.length) (i m c' : Nat) (hi : i < acc.length) (hm : m = n - i) :
    ∃ Z, ∀ ty, (Builtin.clear_ #[41] ty #[.slice (some ⟨g, i * 7, none⟩) m c']).run Tryz.prog W = .ok (.tuple #[]) (W.setCells g (i * 7) Z) := by
  subst hn
  subst hm
  refine ⟨_, fun ty => run_clear_cells (P := Tryz.prog) W 41 143 ty _ Tryz.underlying41 zero_ent (by intro u hu; revert u; decide) g (i * 7) (acc.length - i) c' (by omega)
    (fun j hj => by
      have hj' : j < (acc.length - i) * 7 := hj
      have hlt : i * 7 + j < acc.length * 7 := by omega
      have := hown.own.cellAt (i * 7 + j) hlt
      rw [this, Option.isSome_iff_exists]
      have hl := hown.own.1
      exact ⟨_, List.getElem?_eq_getElem (by rw [hl]; exact hlt)⟩) (fun j _ => hown.own.frozenAt _)⟩

theorem flat_setW (e : Entr) (h : Hd) : ∀ (rows : List (Entr × Hd)) (i : Nat),
    KE.flat (rows.set i (e, h)) = (((((((KE.flat rows).set (i * 7) (.string e.1)).set (i * 7 + 1) (.int .i64 e.2.k)).set (i * 7 + 2) (.int .i64 e.2.n)).set (i * 7 + 3) (.int .i64 e.2.f)).set (i * 7 + 4) (.string e.2.s)).set (i * 7 + 5) (.slice h.p e.2.l.length h.c)).set (i * 7 + 6) (.slice h.q e.2.d.length h.e)
  | [], _ => by simp [Kind.flat]
  | a :: r, 0 => rfl
  | a :: r, i + 1 => by
    have ih := flat_setW e h r i
    have e1 : ∀ q, (i + 1) * 7 + q = i * 7 + q + 1 + 1 + 1 + 1 + 1 + 1 + 1 := fun q => by omega
    have e0 : (i + 1) * 7 = i * 7 + 1 + 1 + 1 + 1 + 1 + 1 + 1 := by omega
    rw [e1 1, e1 2, e1 3, e1 4, e1 5, e1 6, e0]
    show cells7 a.1 a.2 ++ KE.flat (r.set i (e, h)) = _
    rw [ih]
    rfl

theorem OwnP.putW {P : Nat → Prop} {N : Nat} {w : World} {g cap : Nat} {acc : List (Entr × Hd)} (h : OwnP KE P N w (.slice (some ⟨g, 0, none⟩) acc.length cap) acc) (i : Nat) (e : Entr) (d : Hd) (hx : Lies (Cel (fun b => P b ∧ b < N) w) e.2 d) :
    OwnP KE P N (((((((w.setCell ⟨g, i * 7, none⟩ (.string e.1)).setCell ⟨g, i * 7 + 1, none⟩ (.int .i64 e.2.k)).setCell ⟨g, i * 7 + 2, none⟩ (.int .i64 e.2.n)).setCell ⟨g, i * 7 + 3, none⟩ (.int .i64 e.2.f)).setCell ⟨g, i * 7 + 4, none⟩ (.string e.2.s)).setCell ⟨g, i * 7 + 5, none⟩ (.slice d.p e.2.l.length d.c)).setCell ⟨g, i * 7 + 6, none⟩ (.slice d.q e.2.d.length d.e)) (.slice (some ⟨g, 0, none⟩) acc.length cap) (acc.set i (e, d)) ∧
    w.grownBy (((((((w.setCell ⟨g, i * 7, none⟩ (.string e.1)).setCell ⟨g, i * 7 + 1, none⟩ (.int .i64 e.2.k)).setCell ⟨g, i * 7 + 2, none⟩ (.int .i64 e.2.n)).setCell ⟨g, i * 7 + 3, none⟩ (.int .i64 e.2.f)).setCell ⟨g, i * 7 + 4, none⟩ (.string e.2.s)).setCell ⟨g, i * 7 + 5, none⟩ (.slice d.p e.2.l.length d.c)).setCell ⟨g, i * 7 + 6, none⟩ (.slice d.q e.2.d.length d.e)) (some g) := by
  have hg := (h.own.lt g rfl).1
  have s0 := h.own.stored (i * 7) (.string e.1)
  have s1 := s0.1.stored (i * 7 + 1) (.int .i64 e.2.k)
  have s2 := s1.1.stored (i * 7 + 2) (.int .i64 e.2.n)
  have s3 := s2.1.stored (i * 7 + 3) (.int .i64 e.2.f)
  have s4 := s3.1.stored (i * 7 + 4) (.string e.2.s)
  have s5 := s4.1.stored (i * 7 + 5) (.slice d.p e.2.l.length d.c)
  have s6 := s5.1.stored (i * 7 + 6) (.slice d.q e.2.d.length d.e)
  have tr : ∀ {a b c : World}, a.grownBy b (some g) → b.grownBy c (some g) → a.grownBy c (some g) := fun g1 g2 =>
    ⟨g2.os.trans g1.os, g2.tape.trans g1.tape, g2.output.trans g1.output, Nat.le_trans g1.size g2.size, fun k hk hne => (g2.block k (Nat.lt_of_lt_of_le hk g1.size) hne).trans (g1.block k hk hne)⟩
  have G := tr (tr (tr (tr (tr (tr s0.2 s1.2) s2.2) s3.2) s4.2) s5.2) s6.2
  refine ⟨⟨?_, fun r hr => ?_, Nat.le_trans h.base G.size⟩, G⟩
  · rw [flat_setW, List.length_set]; exact s6.1
  · have keep : ∀ {o : Ob} {e : Hd}, Lies (Cel (fun b => P b ∧ b < N) w) o e → Lies (Cel (fun b => P b ∧ b < N) _) o e := fun hl => hl.keep fun b hb hlt => ⟨hb, G.block b hlt (fun e => by injection e with e; have := hb.2; omega)⟩
    rcases List.mem_or_eq_of_mem_set hr with hr | rfl
    · exact keep (h.lies r hr)
    · exact keep hx

end Go.Proofs.YtbgdeaeikijdgaaGreatDoor

namespace Go.Proofs.YtbgdeaeikijdgaaGreatDoor
open Go.RowKit Cx

theorem OwnP.cells7 {P : Nat → Prop} {N : Nat} {w : World} {g cap n : Nat} {acc : List (Entr × Hd)} (h : OwnP KE P N w (.slice (some ⟨g, 0, none⟩) n cap) acc) (hn : n = acc.length) (i : Nat) (hi : i < acc.length) :
    w.cell? ⟨g, i * 7, none⟩ = some (.string acc[i].1.1) ∧ w.cell? ⟨g, i * 7 + 1, none⟩ = some (.int .i64 acc[i].1.2.k) ∧ w.cell? ⟨g, i * 7 + 2, none⟩ = some (.int .i64 acc[i].1.2.n) ∧ w.cell? ⟨g, i * 7 + 3, none⟩ = some (.int .i64 acc[i].1.2.f) ∧
      w.cell? ⟨g, i * 7 + 4, none⟩ = some (.string acc[i].1.2.s) ∧ w.cell? ⟨g, i * 7 + 5, none⟩ = some (.slice acc[i].2.p acc[i].1.2.l.length acc[i].2.c) ∧ w.cell? ⟨g, i * 7 + 6, none⟩ = some (.slice acc[i].2.q acc[i].1.2.d.length acc[i].2.e) := by
  subst hn
  have key : ∀ q, q < 7 → w.cell? ⟨g, i * 7 + q, none⟩ = (KE.cells acc[i])[q]? := fun q hq => by
    rw [h.own.cellAt (i * 7 + q) (show i * 7 + q < acc.length * 7 by omega)]
    exact flat_get KE.cells 7 KE.len acc i q hi hq
  exact ⟨key 0 (by decide), key 1 (by decide), key 2 (by decide), key 3 (by decide), key 4 (by decide), key 5 (by decide), key 6 (by decide)⟩
theorem OwnP.free {P : Nat → Prop} {N : Nat} {w : World} {g cap n : Nat} {acc : List (Entr × Hd)} (h : OwnP KE P N w (.slice (some ⟨g, 0, none⟩) n cap) acc) (hn : n = acc.length) : ∀ k, w.frozen? ⟨g, k, none⟩ = false := by
  subst hn
  exact fun k => h.own.frozenAt k
theorem OwnP.blk {P : Nat → Prop} {N : Nat} {w : World} {g cap n : Nat} {acc : List (Entr × Hd)} (h : OwnP KE P N w (.slice (some ⟨g, 0, none⟩) n cap) acc) : N ≤ g ∧ g < w.heap.size := h.lt g rfl

/-- What is left of a row. -/
def leftR (p : Entr → Bool) (rs : List (Entr × Hd)) : List (Entr × Hd) := rs.filter fun r => !p r.1
theorem leftR_map (p : Entr → Bool) (rs : List (Entr × Hd)) : (leftR p rs).map (·.1) = (rs.map (·.1)).filter fun e => !p e := by
  unfold leftR
  rw [List.filter_map]; rfl
theorem leftR_snoc (p : Entr → Bool) (rs : List (Entr × Hd)) (j : Nat) (hj : j < rs.length) : leftR p (rs.take (j + 1)) = leftR p (rs.take j) ++ (if p rs[j].1 then [] else [rs[j]]) := by
  unfold leftR
  rw [List.take_succ_eq_append_getElem hj, List.filter_append]
  congr 1
  cases h : p rs[j].1 <;> simp [h]
theorem leftR_none (p : Entr → Bool) (rs : List (Entr × Hd)) (h : ∀ i (hi : i < rs.length), p rs[i].1 = false) : leftR p rs = rs := by
  unfold leftR
  rw [List.filter_eq_self]
  intro a ha
  obtain ⟨i, hi, rfl⟩ := List.getElem_of_mem ha
  rw [h i hi]; rfl
theorem leftR_first (p : Entr → Bool) (rs : List (Entr × Hd)) (i : Nat) (h : ∀ k (_ : k < i) (hr : k < rs.length), p rs[k].1 = false) : leftR p (rs.take i) = rs.take i :=
  leftR_none p _ fun k hk => by
    rw [List.length_take] at hk
    rw [List.getElem_take]
    exact h k (by omega) (by omega)
theorem idxE_none {p : Entr → Bool} {d : List Entr} (h : idxE p d < 0) : ∀ i (hi : i < d.length), p d[i] = false := by
  unfold idxE at h
  split at h
  · omega
  · next hn =>
    intro i hi
    cases hp : p d[i]
    · rfl
    · have := findIdx_at hi hp
      omega
theorem idxE_some {p : Entr → Bool} {d : List Entr} {i : Nat} (h : idxE p d = (i : Int)) : ∃ hi : i < d.length, p d[i] = true ∧ ∀ k (_ : k < i) (hd : k < d.length), p d[k] = false := by
  unfold idxE at h
  split at h
  · next hl =>
    obtain rfl : d.findIdx p = i := by omega
    exact ⟨hl, find_hit hl, fun k hk hd => by
      cases hp : p d[k]
      · rfl
      · have := findIdx_at hd hp
        omega⟩
  · omega

set_option maxRecDepth 100000 in
set_option maxHeartbeats 4000000 in
theorem DeleteFunc_any (P : Nat → Prop) (N g : Nat) (lb : Array Value) (p : Entr → Bool) (eg : Ent g) (rows : List (Entr × Hd)) (q : Option Addr) (c : Nat) (w : World) (hO : OwnP KE P N w (.slice q rows.length c) rows) (hks : ∀ r ∈ rows, r.1.1.size ≤ maxLen) (hlen : rows.length ≤ maxLen) (hp : ∀ w, AsksE g lb p w) :
    Calls Tryz.prog 229 #[.slice q rows.length c, .func (.func g) #[] lb] w fun e w' => e = .returned (.slice q (leftR p rows).length c) ∧ OwnP KE P N w' (.slice q (leftR p rows).length c) (leftR p rows) ∧ w.grownBy w' (Value.slice q rows.length c).ownBlock := by
  have HP := Lib.hid hp
  have HO := Lib.hid hO
  have HK := Lib.hid hks
  have hb := hlen
  unfold maxLen at hb
  have HL := Lib.hid (show Lies (Cel (fun b => P b ∨ N ≤ b) w) (dictO (rows.map (·.1))) ⟨none, 0, q, c⟩ from hO.dict hlen hks)
  obtain ⟨X, hX⟩ : ∃ X, X = idxE p (rows.map (·.1)) := ⟨_, rfl⟩
  have HX := Lib.hid hX
  have hbd := idxE_bd p (rows.map (·.1))
  rw [← hX] at hbd
  have HBD := Lib.hid hbd
  have HML := Lib.hid (show (rows.map (·.1)).length = rows.length from List.length_map _)
  have CI := Lib.hid (fun w0 hl => IndexFunc_any (fun b => P b ∨ N ≤ b) g lb p eg (rows.map (·.1)) q c w0 hl (hp w0) X hX)
  rw [HML.out] at CI
  unfold Ent at eg
  clear hX hbd hp hO hks
  rcases HBD.out with hneg | ⟨i0, hi0, rfl⟩
  · have HV := Lib.hid (show leftR p rows = rows from leftR_none p rows fun i hi => by
      have := idxE_none (by rw [← HX.out]; exact hneg) i (by rw [HML.out]; exact hi)
      simpa using this)
    obtain rfl : X = -1 := by
      have := HX.out
      unfold idxE at this
      split at this <;> omega
    clear hneg
    go_enter Tryz.func229, Tryz.ntmps229
    go_wp2_with fail
    (with_reducible refine (CI.out _ HL.out).mono ?_)
    rintro e w2 ⟨rfl, hk2⟩
    have HK2 := Lib.hid hk2
    clear hk2
    go_wp2_with fail
    go_ret
    exact ⟨by rw [HV.out]; rfl, by rw [HV.out]; exact HO.out.kept HK2.out, gb_kept HK2.out _⟩
  · obtain ⟨hi1, hi2, hi3⟩ := idxE_some HX.out.symm
    rw [HML.out] at hi1
    rw [List.getElem_map] at hi2
    have hi4 : ∀ k (hk : k < i0) (hd : k < rows.length), p rows[k].1 = false := fun k hk hd => by
      have := hi3 k hk (by rw [HML.out]; exact hd)
      rwa [List.getElem_map] at this
    obtain ⟨gb, hq, -⟩ := HO.out.row i0 hi1
    subst hq
    have H0 := Lib.hid (show rows.take i0 = leftR p (rows.take (i0 + 1)) by
      rw [leftR_snoc p rows i0 hi1, hi2, if_pos rfl, List.append_nil, leftR_first p rows i0 hi4])
    clear hi2 hi3 hi4
    go_enter Tryz.func229, Tryz.ntmps229
    go_wp2_with fail
    (with_reducible refine (CI.out _ HL.out).mono ?_)
    rintro e w2 ⟨rfl, hk2⟩
    have HK2 := Lib.hid hk2
    have hne : ((i0 : Int) == -1) = false := by
      rw [beq_eq_false_iff_ne]; omega
    clear hk2
    go_wp2_with fail
    go_loopg [5, 6] (rows.length - (i0 + 1)) (fun m a b wr => ∃ (j i : Nat) (R : List (Entr × Hd)), m = rows.length - j ∧ j ≤ rows.length ∧ i < j ∧ a = .int .i64 i ∧ b = .int .i64 j ∧ R.length = rows.length ∧ OwnP KE P N wr (.slice (some ⟨gb, 0, none⟩) rows.length c) R ∧ w.grownBy wr (some gb) ∧ Hid (R.take i = leftR p (rows.take j)) ∧ Hid (R.drop j = rows.drop j))
    case atStart => exact ⟨i0 + 1, i0, rows, rfl, hi1, Nat.lt_succ_self _, rfl, by go_num, rfl, HO.out.kept HK2.out, gb_kept HK2.out _, H0, Lib.hid rfl⟩
    case round =>
      obtain ⟨j, i, R, hm, hj, hij, rfl, rfl, hRl, hOR, hgr, HT, HD⟩ := hrel
      have HOR := Lib.hid hOR
      have HGR := Lib.hid hgr
      have HRL := Lib.hid hRl
      clear hOR hgr hRl
      by_cases hlt : j < rows.length
      · have hjR : j < R.length := by rw [HRL.out]; exact hlt
        have HRJ := Lib.hid (show R[j] = rows[j] by
          have h1 := List.drop_eq_getElem_cons hjR
          have h2 := List.drop_eq_getElem_cons hlt
          rw [HD.out, h2] at h1
          injection h1 with h1 _
          exact h1.symm)
        have HDN := Lib.hid (show R.drop (j + 1) = rows.drop (j + 1) by
          have h1 := List.drop_eq_getElem_cons hjR
          have h2 := List.drop_eq_getElem_cons hlt
          rw [HD.out, h2] at h1
          injection h1 with _ h1
          exact h1.symm)
        have HSN := Lib.hid (leftR_snoc p rows j hlt)
        have HXL := Lib.hid (HOR.out.lies _ (List.getElem_mem hjR))
        obtain ⟨z0, z1, z2, z3, z4, z5, z6⟩ := HOR.out.cells7 HRL.out.symm j hjR
        obtain ⟨hgN, hgl⟩ := HOR.out.blk
        obtain ⟨r, hr⟩ : ∃ r, r = R[j] := ⟨_, rfl⟩
        rw [← hr] at z0 z1 z2 z3 z4 z5 z6 HRJ HXL
        rw [← HRJ.out] at HSN
        obtain ⟨⟨ek, x⟩, ⟨p', c', q', e'⟩⟩ := r
        have HR := Lib.hid hr
        clear hr
        have CG := fun W => HP.out W (ek, x) ⟨p', c', q', e'⟩ W (Kept.refl W)
        unfold entV at CG
        simp only [] at CG z0 z1 z2 z3 z4 z5 z6 HSN
        cases hpx : p (ek, x)
        · have HSN1 := Lib.hid (show leftR p (rows.take (j + 1)) = leftR p (rows.take j) ++ [((ek, x), (⟨p', c', q', e'⟩ : Hd))] by rw [HSN.out, hpx]; rfl)
          rw [hpx] at CG
          have CG1 := Lib.hid CG
          clear CG hpx
          go_wp2_with fail
          (with_reducible refine (CG1.out _).mono ?_)
          rintro en w4 ⟨rfl, hk4⟩
          have HB4 := Lib.hid ((Blk.fresh wr #[.string ek, .int .i64 x.k, .int .i64 x.n, .int .i64 x.f, .string x.s, .slice p' x.l.length c', .slice q' x.d.length e'] 143).kept hk4)
          obtain ⟨t0, t1, t2, t3, t4, t5, t6⟩ := HB4.out.cells7
          have O4 := Lib.hid ((HOR.out.kept ((Kept.refl wr).alloc #[.string ek, .int .i64 x.k, .int .i64 x.n, .int .i64 x.f, .string x.s, .slice p' x.l.length c', .slice q' x.d.length e'] 143)).kept hk4)
          obtain ⟨s0, s1, s2, s3, s4, s5, s6⟩ := O4.out.cells7 HRL.out.symm i (by omega)
          have sf := O4.out.free HRL.out.symm
          have sz := O4.out.blk.2
          have HG4 := Lib.hid (gb_thenK HGR.out (((Kept.refl wr).alloc #[.string ek, .int .i64 x.k, .int .i64 x.n, .int .i64 x.f, .string x.s, .slice p' x.l.length c', .slice q' x.d.length e'] 143).trans hk4))
          have XL4 := Lib.hid ((HXL.out.kept ((Kept.refl wr).alloc #[.string ek, .int .i64 x.k, .int .i64 x.n, .int .i64 x.f, .string x.s, .slice p' x.l.length c', .slice q' x.d.length e'] 143)).kept hk4)
          clear hk4 z0 z1 z2 z3 z4 z5 z6
          go_wp2_with fail
          have OP := OwnP.putW (P := P) (N := N) (w := w4) (g := gb) (cap := c) (acc := R) (by rw [HRL.out]; exact O4.out) i (ek, x) ⟨p', c', q', e'⟩ XL4.out
          have HOP := Lib.hid OP.1
          have HGP := Lib.hid (gb_trans HG4.out OP.2)
          have HLS := Lib.hid (show (R.set i ((ek, x), (⟨p', c', q', e'⟩ : Hd))).length = rows.length by rw [List.length_set, HRL.out])
          clear OP s0 s1 s2 s3 s4 s5 s6 sf t0 t1 t2 t3 t4 t5 t6
          go_roundg (rows.length - (j + 1))
          case measure => omega
          case rel =>
            refine ⟨j + 1, i + 1, R.set i ((ek, x), ⟨p', c', q', e'⟩), rfl, by omega, by omega, by go_num, by go_num, HLS.out, by have := HOP.out; rwa [HRL.out] at this, HGP.out, Lib.hid ?_, Lib.hid ?_⟩
            · rw [HSN1.out, List.take_succ_eq_append_getElem (by rw [HLS.out]; omega), List.getElem_set_self, List.take_set_of_le (Nat.le_refl _), HT.out]
            · rw [List.drop_set_of_lt (by omega)]; exact HDN.out
        · rw [hpx] at CG
          have CG1 := Lib.hid CG
          have HSN1 := Lib.hid (show leftR p (rows.take (j + 1)) = leftR p (rows.take j) by rw [HSN.out, hpx, if_pos rfl, List.append_nil])
          clear CG hpx
          go_wp2_with fail
          (with_reducible refine (CG1.out _).mono ?_)
          rintro en w4 ⟨rfl, hk4⟩
          have O4 := Lib.hid ((HOR.out.kept ((Kept.refl wr).alloc #[.string ek, .int .i64 x.k, .int .i64 x.n, .int .i64 x.f, .string x.s, .slice p' x.l.length c', .slice q' x.d.length e'] 143)).kept hk4)
          have HG4 := Lib.hid (gb_thenK HGR.out (((Kept.refl wr).alloc #[.string ek, .int .i64 x.k, .int .i64 x.n, .int .i64 x.f, .string x.s, .slice p' x.l.length c', .slice q' x.d.length e'] 143).trans hk4))
          go_wp2_with fail
          go_roundg (rows.length - (j + 1))
          case measure => omega
          case rel => exact ⟨j + 1, i, R, rfl, by omega, by omega, rfl, by go_num, HRL.out, O4.out, HG4.out, Lib.hid (by rw [HSN1.out]; exact HT.out), HDN⟩
      · obtain rfl : j = rows.length := by omega
        obtain ⟨Z, hcl⟩ := run_clear_entP HOR.out HRL.out.symm i (rows.length - i) (c - i) (by rw [HRL.out]; omega) rfl
        have HF := Lib.hid (show R.take i = leftR p rows by rw [HT.out, List.take_of_length_le (Nat.le_refl _)])
        have hic : i < c := by
          rcases HOR.out.own.2 with ⟨h', _⟩ | ⟨g', cap', cur, h', _, _, hnc, _⟩
          · cases h'
          · injection h' with _ _ e3
            omega
        have HLF := Lib.hid (show (leftR p rows).length = i by rw [← HF.out, List.length_take, HRL.out]; omega)
        have HOC := Lib.hid (OwnP.clear (P := P) (N := N) (w := wr) (g := gb) (cap := c) (acc := R) (by rw [HRL.out]; exact HOR.out) i (by rw [HRL.out]; omega) Z)
        have HGC := Lib.hid (gb_trans HGR.out (setCells_gb gb Z (i * 7) wr))
        go_wp2_with fail
        go_ret
        exact ⟨by rw [HLF.out]; rfl, by rw [HLF.out, ← HF.out]; exact HOC.out, HGC.out⟩

end Go.Proofs.YtbgdeaeikijdgaaGreatDoor

namespace Go.Proofs.YtbgdeaeikijdgaaGreatDoor
open Go.RowKit Cx

theorem OwnP.gb' {α : Type} {K : Kind α} {P : Nat → Prop} {N : Nat} {w w' : World} {v : Value} {acc : List α} {r : Option Nat} (h : OwnP K P N w v acc) (g : w.grownBy w' r) (hr : ∀ k, r = some k → ¬ (P k ∧ k < N)) (hne : v.ownBlock = none ∨ v.ownBlock ≠ r) : OwnP K P N w' v acc :=
  ⟨h.own.kept g hne, fun x hx => (h.lies x hx).keep fun b hb hlt => ⟨hb, g.block b hlt (fun e => hr b e.symm hb)⟩, Nat.le_trans h.base g.size⟩
theorem OwnP.off {α : Type} {K : Kind α} {P : Nat → Prop} {N : Nat} {w : World} {v : Value} {acc : List α} (h : OwnP K P N w v acc) {b : Nat} (hb : b < N) : v.ownBlock = none ∨ v.ownBlock ≠ some b := by
  cases hv : v.ownBlock with
  | none => exact .inl rfl
  | some k => exact .inr (fun e => by injection e with e; have := (h.lt k hv).1; omega)
theorem OwnP.nil {α : Type} (K : Kind α) (P : Nat → Prop) (N : Nat) (w : World) (hN : N ≤ w.heap.size) : OwnP K P N w (.slice none 0 0) [] := ⟨World.ownsRow_nil _ _ _ _, fun _ h => absurd h List.not_mem_nil, hN⟩
theorem OwnP.toK {M N N' : Nat} {w : World} {v : Value} {acc : List (Entr × Hd)} (h : OwnP KE (fun b => N ≤ b ∧ b < M) N' w v acc) (hN : N ≤ N') : OwnK KE N w v acc := by
  refine ⟨⟨h.own.1, ?_⟩, fun r hr => (h.lies r hr).weak fun b hb => ⟨hb.1.1, fun e => by have := (h.lt b e.symm).1; omega⟩⟩
  rcases h.own.2 with h0 | ⟨g, cap, cur, hv, hb, rest⟩
  · exact .inl h0
  · exact .inr ⟨g, cap, cur, hv, Nat.le_trans hN hb, rest⟩

set_option maxRecDepth 100000 in
set_option maxHeartbeats 4000000 in
theorem settled_any : SetC := by
  intro acc p cap N w hO hlen hks
  have HKS := Lib.hid hks
  have HN := Lib.hid (fun o h w b hb => isNull_any o h w b hb)
  unfold objV at HN
  have LD := Lib.hid (show Lies (Cel (fun b => N ≤ b ∧ b < w.heap.size) w) (dictO (acc.map (·.1))) ⟨none, 0, p, cap⟩ from
    (hO.dict (by unfold maxLen; omega) hks 6 0 0).keep fun b hb hlt => ⟨⟨hb, hlt⟩, rfl⟩)
  have HML := Lib.hid (show (acc.map (·.1)).length = acc.length from List.length_map _)
  have HKN := Lib.hid (show acc.length = 0 ∨ N ≤ w.heap.size + 1 by
    rcases hO.own.2 with ⟨_, h0⟩ | ⟨g, cap', cur, hv, hb, hg, _⟩
    · exact .inl h0
    · have := (Array.getElem?_eq_some_iff.1 hg).1
      exact .inr (by omega))
  have IM := Lib.hid (Idx.made w)
  have KM := Lib.hid ((Kept.refl w).allocO (.map #[] 0))
  have OM := Lib.hid (OwnP.nil KE (fun b => N ≤ b ∧ b < w.heap.size) (w.heap.size + 1) (w.alloc (.map #[] 0)) (by simp))
  clear hO hks
  have hmm : ∀ (t : TypeId) (w : World), (Instr.makeMap t none).run Tryz.prog w = .ok (.map (some w.heap.size)) (w.alloc (.map #[] 0)) := fun _ _ => rfl
  go_enter Tryz.func213, Tryz.ntmps213
  go_wp2_with fail
  go_loopg [4, 12] (acc.length) (fun m a i wr => ∃ (j : Nat) (rows : List (Entr × Hd)) (q : Option Addr) (c : Nat) (J : ByteArray → Option Nat), m = acc.length - j ∧ j ≤ acc.length ∧ i = .int .i64 j ∧ a = .slice q rows.length c ∧ rows.length ≤ j ∧ Kept w wr ∧ w.heap.size < wr.heap.size ∧ Idx wr w.heap.size j J ∧ OwnP KE (fun b => N ≤ b ∧ b < w.heap.size) (w.heap.size + 1) wr (.slice q rows.length c) rows ∧ Hid (Cx.Inv (rows.map (·.1)) J (Cx.settle ((acc.map (·.1)).take j))) ∧ Hid (∀ r ∈ rows, r.1.1.size ≤ maxLen) ∧ Hid (rows.length = 0 → q = none ∧ c = 0))
  case atStart => exact ⟨0, [], none, 0, _, by omega, Nat.zero_le _, rfl, rfl, Nat.le_refl _, KM.out, by simp, IM.out, OM.out, Lib.hid Cx.Inv.nil, Lib.hid (fun _ h => absurd h List.not_mem_nil), Lib.hid (fun _ => ⟨rfl, rfl⟩)⟩
  case round =>
    obtain ⟨j, rows, q, c, J, hm, hj, rfl, rfl, hrl, hk, hsz, hI, hOR, HV, HKR, HQ0⟩ := hrel
    have HK := Lib.hid hk
    have HI := Lib.hid hI
    have HO := Lib.hid hOR
    clear hk hI hOR IM KM OM
    by_cases hlt : j < acc.length
    · obtain ⟨ek, x, bb, off, ⟨p', c', q', e'⟩, hxe, hqq, hPb, hbl, hx, hks, z0, y0, y1, y2, y3, y4, y5⟩ := (LD.out.kept HK.out).entry j (by rw [dictO, Ob.d, HML.out]; exact hlt)
      simp only [dictO, Ob.d] at hxe
      simp only [] at hqq y4 y5
      subst hqq
      have XL := Lib.hid hx
      have HEK := Lib.hid hks
      have HSN := Lib.hid (show Cx.settle ((acc.map (·.1)).take (j + 1)) = setD (Cx.settle ((acc.map (·.1)).take j)) ek x by
        rw [settle_snoc _ j (by rw [HML.out]; exact hlt), hxe])
      have HB1 := Lib.hid (Blk.fresh wr #[.string ek, .int .i64 x.k, .int .i64 x.n, .int .i64 x.f, .string x.s, .slice p' x.l.length c', .slice q' x.d.length e'] 143)
      have I1 := Lib.hid (HI.out.keptK ((Kept.refl wr).alloc #[.string ek, .int .i64 x.k, .int .i64 x.n, .int .i64 x.f, .string x.s, .slice p' x.l.length c', .slice q' x.d.length e'] 143))
      have O1 := Lib.hid (HO.out.kept ((Kept.refl wr).alloc #[.string ek, .int .i64 x.k, .int .i64 x.n, .int .i64 x.f, .string x.s, .slice p' x.l.length c', .slice q' x.d.length e'] 143))
      have K1 := Lib.hid (HK.out.alloc #[.string ek, .int .i64 x.k, .int .i64 x.n, .int .i64 x.f, .string x.s, .slice p' x.l.length c', .slice q' x.d.length e'] 143)
      clear hxe hPb hx hks
      cases hJ : J ek with
      | none =>
        cases hx0 : (x.k == 0)
        · have HV1 := Lib.hid (HV.out.push hJ (v := x) (by simpa using hx0))
          go_wp2_with (at_lookup; refine wpList_idx_ok rfl _ _ rfl I1.out rfl ek rfl HEK.out ?_; rw [hJ]; simp only [Option.getD_none, Option.isSome_none])
          (with_reducible refine (HN.out x ⟨p', c', q', e'⟩ _ false hx0.symm).mono ?_)
          rintro en w4 ⟨rfl, hk4⟩
          have HB4 := Lib.hid (HB1.out.kept hk4)
          obtain ⟨t0, t1, t2, t3, t4, t5, t6⟩ := HB4.out.cells7
          have tz := HB4.out.lt
          have I4 := Lib.hid (I1.out.keptK hk4)
          have O4 := Lib.hid (O1.out.kept hk4)
          have K4 := Lib.hid (K1.out.trans hk4)
          have XL4 := Lib.hid ((XL.out.kept ((Kept.refl wr).alloc #[.string ek, .int .i64 x.k, .int .i64 x.n, .int .i64 x.f, .string x.s, .slice p' x.l.length c', .slice q' x.d.length e'] 143)).kept hk4)
          have S4 : w.heap.size < w4.heap.size := by omega
          clear hk4 z0 y0 y1 y2 y3 y4 y5
          go_wp2_with (first
            | (at_mapUpdate; refine wpList_idx_put rfl _ _ _ rfl I4.out (by unfold maxLen; omega) rfl ek rfl HEK.out rows.length rfl (by omega) ?_; intro w5 hI5 hg5; have HB5 := Lib.hid (HB4.out.gb hg5 (by intro e; injection e with e; omega)); have O5 := Lib.hid (O4.out.gb' hg5 (fun k hk hp => by injection hk with hk; omega) (O4.out.off (Nat.lt_succ_self _))); obtain ⟨t0, t1, t2, t3, t4, t5, t6⟩ := HB5.out.cells7)
            | (at_builtin; go_loud (refine wpList_app_entP rfl _ _ rfl _ _ rows O5.out rfl ((ek, x), (⟨p', c', q', e'⟩ : Hd)) _ rfl w5.heap.size rfl rfl (by omega) ?_)))
          intro g cap2 w6 own6 hg6
          have K5 := Lib.hid (K4.out.gbOwn hg5 (fun k hk => by injection hk with hk; omega))
          have XL5 := Lib.hid (show Lies (Cel (fun b => (N ≤ b ∧ b < w.heap.size) ∧ b < w.heap.size + 1) w5) x ⟨p', c', q', e'⟩ from XL4.out.keep fun b hb hlt => ⟨⟨hb, by omega⟩, hg5.block b hlt (fun e => by injection e with e; omega)⟩)
          have I5 := Lib.hid hI5
          have O6 := Lib.hid (OwnP.app (x := (((ek, x), (⟨p', c', q', e'⟩ : Hd)) : Entr × Hd)) O5.out XL5.out own6 hg6)
          have K6 := Lib.hid ((K5.out.allocO _).gbOwn hg6 (fun k hk => by have := (O5.out.lt k hk).1; omega))
          have I6 := Lib.hid ((I5.out.keptK ((Kept.refl w5).allocO (.cells (cells7 (ek, x) ⟨p', c', q', e'⟩).toArray 143))).kept hg6 (by
            rcases O5.out.off (Nat.lt_succ_self _) with h0 | h0
            · rw [h0]; simp
            · exact fun e => h0 e.symm))
          have S6 : w.heap.size < w6.heap.size := by have h1 := hg5.size; have h2 := hg6.size; simp at h2; omega
          have HLen := Lib.hid (show (rows ++ [((ek, x), (⟨p', c', q', e'⟩ : Hd))]).length = rows.length + 1 by simp)
          have HML2 := Lib.hid (show (rows.map (·.1)).length = rows.length from List.length_map _)
          clear own6 hg6 hI5 hg5
          go_wp2_with fail
          go_roundg (acc.length - (j + 1))
          case measure => omega
          case rel =>
            refine ⟨j + 1, rows ++ [((ek, x), ⟨p', c', q', e'⟩)], some ⟨g, 0, none⟩, cap2, _, rfl, by omega, by go_num, by rw [HLen.out], by rw [HLen.out]; omega, K6.out, S6, I6.out, by rw [HLen.out]; exact O6.out, Lib.hid ?_, Lib.hid fun r hr => ?_, Lib.hid fun h0 => by rw [HLen.out] at h0; omega⟩
            · rw [HSN.out, List.map_append]
              have := HV1.out
              rw [HML2.out] at this
              exact this
            · rcases List.mem_append.1 hr with hr | hr
              · exact HKR.out r hr
              · rw [List.mem_singleton.1 hr]; exact HEK.out
        · have HV1 := Lib.hid (HV.out.skip hJ (v := x) (by simpa using hx0))
          go_wp2_with (at_lookup; refine wpList_idx_ok rfl _ _ rfl I1.out rfl ek rfl HEK.out ?_; rw [hJ]; simp only [Option.getD_none, Option.isSome_none])
          (with_reducible refine (HN.out x ⟨p', c', q', e'⟩ _ true hx0.symm).mono ?_)
          rintro en w4 ⟨rfl, hk4⟩
          have HB4 := Lib.hid (HB1.out.kept hk4)
          obtain ⟨t0, t1, t2, t3, t4, t5, t6⟩ := HB4.out.cells7
          have tz := HB4.out.lt
          have I4 := Lib.hid (I1.out.keptK hk4)
          have O4 := Lib.hid (O1.out.kept hk4)
          have K4 := Lib.hid (K1.out.trans hk4)
          have XL4 := Lib.hid ((XL.out.kept ((Kept.refl wr).alloc #[.string ek, .int .i64 x.k, .int .i64 x.n, .int .i64 x.f, .string x.s, .slice p' x.l.length c', .slice q' x.d.length e'] 143)).kept hk4)
          have S4 : w.heap.size < w4.heap.size := by omega
          clear hk4 z0 y0 y1 y2 y3 y4 y5
          go_wp2_with fail
          go_roundg (acc.length - (j + 1))
          case measure => omega
          case rel => exact ⟨j + 1, rows, q, c, J, rfl, by omega, by go_num, rfl, by omega, K4.out, S4, I4.out.mono (Nat.le_succ _), O4.out, Lib.hid (by rw [HSN.out]; exact HV1.out), HKR, HQ0⟩
      | some i =>
        obtain ⟨hiM, hik, hil⟩ := HV.out.there ek i hJ
        have hi : i < rows.length := by rwa [List.length_map] at hiM
        rw [List.getElem_map] at hik
        have hik' : (rows[i]'hi).1.1 = ek := hik
        obtain ⟨g, hq, -⟩ := O1.out.row i hi
        subst hq
        have hgne : wr.heap.size ≠ g := by have := (HO.out.blk).2; omega
        have hgne' : g ≠ wr.heap.size := Ne.symm hgne
        have hgm : some w.heap.size ≠ some g := by have := (HO.out.blk).1; intro e; injection e with e; omega
        have HKI := Lib.hid hik'
        clear hik hik' hil hiM
        cases hx0 : (x.k == 0)
        · have HV1 := Lib.hid (HV.out.replace hJ (v := x) (by simpa using hx0))
          go_wp2_with (at_lookup; refine wpList_idx_ok rfl _ _ rfl I1.out rfl ek rfl HEK.out ?_; rw [hJ]; simp only [Option.getD_some, Option.isSome_some])
          (with_reducible refine (HN.out x ⟨p', c', q', e'⟩ _ false hx0.symm).mono ?_)
          rintro en w4 ⟨rfl, hk4⟩
          have HB4 := Lib.hid (HB1.out.kept hk4)
          obtain ⟨t0, t1, t2, t3, t4, t5, t6⟩ := HB4.out.cells7
          have tz := HB4.out.lt
          have I4 := Lib.hid (I1.out.keptK hk4)
          have O4 := Lib.hid (O1.out.kept hk4)
          have K4 := Lib.hid (K1.out.trans hk4)
          have XL4 := Lib.hid ((XL.out.kept ((Kept.refl wr).alloc #[.string ek, .int .i64 x.k, .int .i64 x.n, .int .i64 x.f, .string x.s, .slice p' x.l.length c', .slice q' x.d.length e'] 143)).kept hk4)
          have S4 : w.heap.size < w4.heap.size := by omega
          clear hk4 z0 y0 y1 y2 y3 y4 y5
          obtain ⟨s0, s1, s2, s3, s4, s5, s6⟩ := O4.out.cells7 rfl i hi
          have sf := O4.out.free rfl
          have sz := O4.out.blk.2
          have OP := Lib.hid (O4.out.put i hi x ⟨p', c', q', e'⟩ (XL4.out.weak fun b hb => ⟨hb, by omega⟩))
          have GP := Lib.hid (O4.out.put_gb i x ⟨p', c', q', e'⟩)
          have HLS := Lib.hid (show (rows.set i ((rows[i].1.1, x), (⟨p', c', q', e'⟩ : Hd))).length = rows.length from List.length_set ..)
          have K5 := Lib.hid (K4.out.gbOwn GP.out (fun k hk => by injection hk with hk; have := (HO.out.blk).1; omega))
          have I5 := Lib.hid (I4.out.kept GP.out hgm)
          have S5 := Nat.lt_of_lt_of_le S4 GP.out.size
          clear s0 s1 s2 s3 s4 s5 s6 sf sz
          obtain ⟨s0, s1, s2, s3, s4, s5, s6⟩ := O4.out.cells7 rfl i hi
          have sf := O4.out.free rfl
          have sz := O4.out.blk.2
          go_wp2_with fail
          go_roundg (acc.length - (j + 1))
          case measure => omega
          case rel =>
            refine ⟨j + 1, rows.set i ((rows[i].1.1, x), (⟨p', c', q', e'⟩ : Hd)), some ⟨g, 0, none⟩, c, J, rfl, by omega, by go_num, by rw [HLS.out], by rw [HLS.out]; omega, K5.out, S5, I5.out.mono (Nat.le_succ _), by rw [HLS.out]; exact OP.out, Lib.hid ?_, Lib.hid fun r hr => ?_, Lib.hid fun h0 => by rw [HLS.out] at h0; omega⟩
            · rw [HSN.out, List.map_set, HKI.out]; exact HV1.out
            · rcases List.mem_or_eq_of_mem_set hr with hr | rfl
              · exact HKR.out r hr
              · simp only []; rw [HKI.out]; exact HEK.out
        · have HV1 := Lib.hid (HV.out.strike hJ (v := x) (by simpa using hx0))
          go_wp2_with (at_lookup; refine wpList_idx_ok rfl _ _ rfl I1.out rfl ek rfl HEK.out ?_; rw [hJ]; simp only [Option.getD_some, Option.isSome_some])
          (with_reducible refine (HN.out x ⟨p', c', q', e'⟩ _ true hx0.symm).mono ?_)
          rintro en w4 ⟨rfl, hk4⟩
          have HB4 := Lib.hid (HB1.out.kept hk4)
          obtain ⟨t0, t1, t2, t3, t4, t5, t6⟩ := HB4.out.cells7
          have tz := HB4.out.lt
          have I4 := Lib.hid (I1.out.keptK hk4)
          have O4 := Lib.hid (O1.out.kept hk4)
          have K4 := Lib.hid (K1.out.trans hk4)
          have XL4 := Lib.hid ((XL.out.kept ((Kept.refl wr).alloc #[.string ek, .int .i64 x.k, .int .i64 x.n, .int .i64 x.f, .string x.s, .slice p' x.l.length c', .slice q' x.d.length e'] 143)).kept hk4)
          have S4 : w.heap.size < w4.heap.size := by omega
          clear hk4 z0 y0 y1 y2 y3 y4 y5
          obtain ⟨s0, s1, s2, s3, s4, s5, s6⟩ := O4.out.cells7 rfl i hi
          have sf := O4.out.free rfl
          have sz := O4.out.blk.2
          have OP := Lib.hid (O4.out.put i hi nul Hd.none (Lies.flat _ 0 0 0 ⟨#[]⟩ _ (Nat.zero_le _)))
          have GP := Lib.hid (O4.out.put_gb i nul Hd.none)
          have HLS := Lib.hid (show (rows.set i ((rows[i].1.1, nul), Hd.none)).length = rows.length from List.length_set ..)
          have I5 := Lib.hid (I4.out.kept GP.out hgm)
          go_wp2_with (at_delete; refine wpList_idx_del rfl _ _ rfl I5.out rfl ek rfl HEK.out ?_; intro w6 hI6 hg6)
          have K6 := Lib.hid ((K4.out.gbOwn GP.out (fun k hk => by injection hk with hk; have := (HO.out.blk).1; omega)).gbOwn hg6 (fun k hk => by injection hk with hk; omega))
          have O6 := Lib.hid (OP.out.gb' hg6 (fun k hk hp => by injection hk with hk; omega) (OP.out.off (Nat.lt_succ_self _)))
          have I6 := Lib.hid hI6
          have S6 : w.heap.size < w6.heap.size := Nat.lt_of_lt_of_le S4 (Nat.le_trans GP.out.size hg6.size)
          clear hI6 hg6 s0 s1 s2 s3 s4 s5 s6 sf sz t0 t1 t2 t3 t4 t5 t6
          go_roundg (acc.length - (j + 1))
          case measure => omega
          case rel =>
            refine ⟨j + 1, rows.set i ((rows[i].1.1, nul), Hd.none), some ⟨g, 0, none⟩, c, _, rfl, by omega, by go_num, by rw [HLS.out], by rw [HLS.out]; omega, K6.out, S6, I6.out.mono (Nat.le_succ _), by rw [HLS.out]; exact O6.out, Lib.hid ?_, Lib.hid fun r hr => ?_, Lib.hid fun h0 => by rw [HLS.out] at h0; omega⟩
            · rw [HSN.out, List.map_set, HKI.out]; exact HV1.out
            · rcases List.mem_or_eq_of_mem_set hr with hr | rfl
              · exact HKR.out r hr
              · simp only []; rw [HKI.out]; exact HEK.out
    · obtain rfl : j = acc.length := by omega
      have HVE := Lib.hid (show Cx.live (rows.map (·.1)) = Cx.settle (acc.map (·.1)) by
        have := HV.out.live
        rwa [List.take_of_length_le (by rw [HML.out]; exact Nat.le_refl _)] at this)
      go_wp2_with fail
      (with_reducible refine (DeleteFunc_any (fun b => N ≤ b ∧ b < w.heap.size) (w.heap.size + 1) _ #[] (fun e => e.2.k == 0) ent_settled1 rows q c wr HO.out HKR.out (by unfold maxLen; omega) settled1_asks).mono ?_)
      rintro e w7 ⟨rfl, hO7, hg7⟩
      have O7 := Lib.hid hO7
      have K7 := Lib.hid (HK.out.gbOwn hg7 (fun k hk => by have := (HO.out.lt k hk).1; omega))
      have HLL := Lib.hid (show (leftR (fun e => e.2.k == 0) rows).length ≤ rows.length from List.length_filter_le _ _)
      clear hO7 hg7
      go_wp2_with fail
      go_ret
      refine ⟨leftR (fun e => e.2.k == 0) rows, q, c, rfl, K7.out, by rw [leftR_map, ← HVE.out]; rfl, Nat.le_trans HLL.out (by omega), fun r hr => HKR.out r ((List.mem_filter.1 hr).1), ?_⟩
      rcases HKN.out with h0 | hN
      · obtain ⟨rfl, rfl⟩ := HQ0.out (by omega)
        have hr0 : rows = [] := List.eq_nil_of_length_eq_zero (by omega)
        subst hr0
        exact OwnK.nil _ _ _
      · exact O7.out.toK hN

end Go.Proofs.YtbgdeaeikijdgaaGreatDoor
