/-
  Numbered objects in memory: where they lie; rows of a call's own.
-/
import Derived.Test.YtakbhdhlcnpejaaCosRows
import Derived.Test.YtakbhdhlcnpejaaCosObject
import Derived.Test.YtakbhdhlcnpejaaMathS
namespace Go.Proofs.Ytakbhdhlcnpejaa
open Go.RowKit Cx Sx
set_option linter.unusedSimpArgs false
set_option linter.unusedVariables false

def cells8 (x : Nm) (h : Hd) : List Value := .int .i64 x.n :: .int .i64 x.g :: cells6 x.o h
def nmV (x : Nm) (h : Hd) : Value := .agg #[.int .i64 x.n, .int .i64 x.g, .int .i64 x.o.k, .int .i64 x.o.n, .int .i64 x.o.f, .string x.o.s, .slice h.p x.o.l.length h.c, .slice h.q x.o.d.length h.e]
theorem oneCell8 (x : Nm) (h : Hd) : ∀ u ∈ cells8 x h, u.oneCell' = true := by
  intro u hu
  rcases List.mem_cons.1 hu with rfl | hu
  · rfl
  · rcases List.mem_cons.1 hu with rfl | hu
    · rfl
    · exact oneCell6 _ _ u hu
def KN : Kind (Nm × Hd) := ⟨8, by decide, fun r => cells8 r.1 r.2, fun _ => rfl, fun r => oneCell8 r.1 r.2, fun r => r.1.o, fun r => r.2, 65, 44⟩
def KR : Kind (Nm × Hd) := ⟨8, by decide, fun r => cells8 r.1 r.2, fun _ => rfl, fun r => oneCell8 r.1 r.2, fun r => r.1.o, fun r => r.2, 56, 22⟩
abbrev nul8 : Array Value := #[.int .i64 0, .int .i64 0, .int .i64 0, .int .i64 0, .int .i64 0, .string ⟨#[]⟩, .slice none 0 0, .slice none 0 0]
theorem info_nm : (Try.prog.info? 65).map (fun i => (i.zero, i.size, i.bytes)) = some (some (.agg #[.int .i64 0, .int .i64 0, .int .i64 0, .int .i64 0, .int .i64 0, .string ⟨#[]⟩, .slice none 0 0, .slice none 0 0]), 8, 104) := by kernel_rfl
theorem info_rnm : (Try.prog.info? 56).map (fun i => (i.zero, i.size, i.bytes)) = some (some (.agg #[.int .i64 0, .int .i64 0, .int .i64 0, .int .i64 0, .int .i64 0, .string ⟨#[]⟩, .slice none 0 0, .slice none 0 0]), 8, 104) := by kernel_rfl
theorem Blk.cells8 {w : World} {b : Nat} {v0 v1 v2 v3 v4 v5 v6 v7 : Value} {t : TypeId} (h : Blk w b #[v0, v1, v2, v3, v4, v5, v6, v7] t) : w.cell? ⟨b, 0, none⟩ = some v0 ∧ w.cell? ⟨b, 1, none⟩ = some v1 ∧ w.cell? ⟨b, 2, none⟩ = some v2 ∧ w.cell? ⟨b, 3, none⟩ = some v3 ∧ w.cell? ⟨b, 4, none⟩ = some v4 ∧ w.cell? ⟨b, 5, none⟩ = some v5 ∧ w.cell? ⟨b, 6, none⟩ = some v6 ∧ w.cell? ⟨b, 7, none⟩ = some v7 :=
  ⟨h.cell 0, h.cell 1, h.cell 2, h.cell 3, h.cell 4, h.cell 5, h.cell 6, h.cell 7⟩

/-- Where numbered objects lie: what their cells read as, of the blocks that fit. -/
structure NmR (P : Nat → Prop) (w : World) (p : Option Addr) (l : List Nm) : Prop where
  len : l.length ≤ maxLen
  at' : ∀ i (hi : i < l.length), ∃ b off h, p = some ⟨b, off, none⟩ ∧ P b ∧ b < w.heap.size ∧ Lies (Cel P w) l[i].o h ∧
    w.cell? ⟨b, off + i * 8, none⟩ = some (.int .i64 l[i].n) ∧ w.cell? ⟨b, off + i * 8 + 1, none⟩ = some (.int .i64 l[i].g) ∧
    w.cell? ⟨b, off + i * 8 + 2, none⟩ = some (.int .i64 l[i].o.k) ∧ w.cell? ⟨b, off + i * 8 + 3, none⟩ = some (.int .i64 l[i].o.n) ∧ w.cell? ⟨b, off + i * 8 + 4, none⟩ = some (.int .i64 l[i].o.f) ∧
    w.cell? ⟨b, off + i * 8 + 5, none⟩ = some (.string l[i].o.s) ∧ w.cell? ⟨b, off + i * 8 + 6, none⟩ = some (.slice h.p l[i].o.l.length h.c) ∧ w.cell? ⟨b, off + i * 8 + 7, none⟩ = some (.slice h.q l[i].o.d.length h.e)

theorem NmR.keep {P P' : Nat → Prop} {w w' : World} {p : Option Addr} {l : List Nm} (h : NmR P w p l) (hs : w.heap.size ≤ w'.heap.size) (hP : ∀ b, P b → b < w.heap.size → P' b ∧ w'.heap[b]? = w.heap[b]?) : NmR P' w' p l := by
  refine ⟨h.len, fun i hi => ?_⟩
  obtain ⟨b, off, hd, hp, hb, hlt, hl, c0, c1, c2, c3, c4, c5, c6, c7⟩ := h.at' i hi
  have key : ∀ o v, w.cell? ⟨b, o, none⟩ = some v → w'.cell? ⟨b, o, none⟩ = some v := fun o v hv => by
    rw [World.cell?_of_block (w := w) (a := ⟨b, o, none⟩) (hP b hb hlt).2]; exact hv
  exact ⟨b, off, hd, hp, (hP b hb hlt).1, by omega, hl.keep hP, key _ _ c0, key _ _ c1, key _ _ c2, key _ _ c3, key _ _ c4, key _ _ c5, key _ _ c6, key _ _ c7⟩
theorem NmR.kept {P : Nat → Prop} {w w' : World} {p : Option Addr} {l : List Nm} (h : NmR P w p l) (k : Kept w w') : NmR P w' p l := h.keep (Below.size k) fun b hb hlt => ⟨hb, k.below.block b hlt⟩
theorem NmR.gb {P : Nat → Prop} {w w' : World} {p : Option Addr} {l : List Nm} {r : Option Nat} (h : NmR P w p l) (k : w.grownBy w' r) (hr : ∀ b, P b → some b ≠ r) : NmR P w' p l := h.keep k.size fun b hb hlt => ⟨hb, k.block b hlt (hr b hb)⟩
theorem NmR.weak {P P' : Nat → Prop} {w : World} {p : Option Addr} {l : List Nm} (h : NmR P w p l) (hP : ∀ b, P b → P' b) : NmR P' w p l := h.keep (Nat.le_refl _) fun b hb _ => ⟨hP b hb, rfl⟩
theorem NmR.nil (P : Nat → Prop) (w : World) (p : Option Addr) : NmR P w p [] := ⟨Nat.zero_le _, fun i hi => absurd hi (Nat.not_lt_zero _)⟩
/-- In a world of its own blocks. -/
theorem NmR.low {P : Nat → Prop} {w : World} {p : Option Addr} {l : List Nm} (h : NmR P w p l) : NmR (fun b => P b ∧ b < w.heap.size) w p l := h.keep (Nat.le_refl _) fun b hb hlt => ⟨⟨hb, hlt⟩, rfl⟩

/-- A row of the call's own lies so. -/
theorem OwnK.nmR {K : Kind (Nm × Hd)} {N : Nat} {w : World} {p : Option Addr} {cap : Nat} {acc : List (Nm × Hd)} (hs : K.size = 8) (hc : ∀ r, K.cells r = cells8 r.1 r.2) (ho : ∀ r, K.ob r = r.1.o) (hh : ∀ r, K.hd r = r.2) (h : OwnK K N w (.slice p acc.length cap) acc) (hlen : acc.length ≤ maxLen) :
    NmR (fun b => N ≤ b) w p (acc.map (·.1)) := by
  refine ⟨by simpa using hlen, fun i hi => ?_⟩
  have hi' : i < acc.length := by simpa using hi
  obtain ⟨b, hp, hr⟩ := h.row i hi'
  rw [hs, hc] at hr
  have hl : Lies (Cel (fun b => N ≤ b) w) acc[i].1.o acc[i].2 := by
    have := (h.lies _ (List.getElem_mem hi')).weak (P' := fun b => N ≤ b) fun _ hb => hb.1
    rw [ho, hh] at this; exact this
  have e : (acc.map (·.1))[i] = acc[i].1 := List.getElem_map _
  rw [e]
  have hb0 := hr 0 _ rfl
  exact ⟨b, 0, acc[i].2, hp, hb0.1, World.block_lt_of_cell? w _ hb0.2, hl, (hr 0 _ rfl).2, (hr 1 _ rfl).2, (hr 2 _ rfl).2, (hr 3 _ rfl).2, (hr 4 _ rfl).2, (hr 5 _ rfl).2, (hr 6 _ rfl).2, (hr 7 _ rfl).2⟩
theorem OwnK.nm {N : Nat} {w : World} {p : Option Addr} {cap : Nat} {acc : List (Nm × Hd)} (h : OwnK KN N w (.slice p acc.length cap) acc) (hlen : acc.length ≤ maxLen) : NmR (fun b => N ≤ b) w p (acc.map (·.1)) :=
  h.nmR rfl (fun _ => rfl) (fun _ => rfl) (fun _ => rfl) hlen
theorem OwnK.rnm {N : Nat} {w : World} {p : Option Addr} {cap : Nat} {acc : List (Nm × Hd)} (h : OwnK KR N w (.slice p acc.length cap) acc) (hlen : acc.length ≤ maxLen) : NmR (fun b => N ≤ b) w p (acc.map (·.1)) :=
  h.nmR rfl (fun _ => rfl) (fun _ => rfl) (fun _ => rfl) hlen

set_option maxRecDepth 100000 in
/-- 'append(l, x)' to such a row. -/
theorem wpList_app_nm {ops : Array Oper} {rest : List Oper} {o : Oper} {a : Act} {Q : Exit → Act → World → Prop} (hgd : o.guard = none) (s x : Operand)
    (ho : o.op = .call { callee := .builtin .append, args := #[s, x], argTypes := #[44, 44] })
    {W : World} (N : Nat) {v : Value} (acc : List (Nm × Hd)) (hown : OwnK KN N W v acc) (hs : a.eval s = v) (r : Nm × Hd) (cells : Array Value) (hc : cells = (cells8 r.1 r.2).toArray)
    (H : Nat) (hH : W.heap.size = H) (hx : a.eval x = .slice (some ⟨H, 0, none⟩) 1 1) (hB : N ≤ W.heap.size) (hlen : acc.length ≤ 4294967296)
    (h : ∀ g cap w', w'.ownsRow N 65 8 (.slice (some ⟨g, 0, none⟩) (acc.length + 1) cap) (acc.length + 1) (KN.flat acc ++ KN.cells r) → (W.alloc (.cells cells 65)).grownBy w' v.ownBlock → (v.ownBlock = some g ∨ g = W.heap.size + 1) → g < w'.heap.size →
      wpList Try.prog ops Q rest (a.put o.dst (.slice (some ⟨g, 0, none⟩) (acc.length + 1) cap)) w') :
    wpList Try.prog ops Q (o :: rest) a (W.alloc (.cells cells 65)) := by
  obtain ⟨i0, hi, hz0, hz1, hz2⟩ := info_parts info_nm
  subst hc
  subst hH
  refine wpList_append_lies _ hgd s x 44 ho N 65 i0 _ 8 104 Try.underlying44 hi hz0 hz1 hz2 rfl (by decide) v acc.length (KN.flat acc) hs (hown.own.alloc _) ⟨W.heap.size, 0, none⟩ 1 1 (cells8 r.1 r.2) hx rfl
    ?_ (oneCell8 _ _) (by decide) (by unfold maxLen; omega) (by omega) (by simp; omega) (W.heap.size + 1) (by simp) h
  intro j u hj
  rw [Addr.add_lit, Nat.zero_add]
  have := (Blk.fresh W (cells8 r.1 r.2).toArray 65).cell j
  rw [this]
  simpa using hj
set_option maxRecDepth 100000 in
theorem wpList_app_rnm {ops : Array Oper} {rest : List Oper} {o : Oper} {a : Act} {Q : Exit → Act → World → Prop} (hgd : o.guard = none) (s x : Operand)
    (ho : o.op = .call { callee := .builtin .append, args := #[s, x], argTypes := #[22, 22] })
    {W : World} (N : Nat) {v : Value} (acc : List (Nm × Hd)) (hown : OwnK KR N W v acc) (hs : a.eval s = v) (r : Nm × Hd) (cells : Array Value) (hc : cells = (cells8 r.1 r.2).toArray)
    (H : Nat) (hH : W.heap.size = H) (hx : a.eval x = .slice (some ⟨H, 0, none⟩) 1 1) (hB : N ≤ W.heap.size) (hlen : acc.length ≤ 4294967296)
    (h : ∀ g cap w', w'.ownsRow N 56 8 (.slice (some ⟨g, 0, none⟩) (acc.length + 1) cap) (acc.length + 1) (KR.flat acc ++ KR.cells r) → (W.alloc (.cells cells 56)).grownBy w' v.ownBlock → (v.ownBlock = some g ∨ g = W.heap.size + 1) → g < w'.heap.size →
      wpList Try.prog ops Q rest (a.put o.dst (.slice (some ⟨g, 0, none⟩) (acc.length + 1) cap)) w') :
    wpList Try.prog ops Q (o :: rest) a (W.alloc (.cells cells 56)) := by
  obtain ⟨i0, hi, hz0, hz1, hz2⟩ := info_parts info_rnm
  subst hc
  subst hH
  refine wpList_append_lies _ hgd s x 22 ho N 56 i0 _ 8 104 Try.underlying22 hi hz0 hz1 hz2 rfl (by decide) v acc.length (KR.flat acc) hs (hown.own.alloc _) ⟨W.heap.size, 0, none⟩ 1 1 (cells8 r.1 r.2) hx rfl
    ?_ (oneCell8 _ _) (by decide) (by unfold maxLen; omega) (by omega) (by simp; omega) (W.heap.size + 1) (by simp) h
  intro j u hj
  rw [Addr.add_lit, Nat.zero_add]
  have := (Blk.fresh W (cells8 r.1 r.2).toArray 56).cell j
  rw [this]
  simpa using hj

end Go.Proofs.Ytakbhdhlcnpejaa
