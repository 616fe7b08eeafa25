/-
  A pen in memory: its block, its sheet's, and its three rows of the call's own.
  'append' to a pen's rows.
  A struct of many cells that is stored into a new variable, and read out of a row: as a whole.
-/
import Derived.Test.YtbgdeaeikijdgaaGreatDoorCosRows
import Derived.Test.YtbgdeaeikijdgaaGreatDoorWbM
import Derived.Deep.MidRow
import Derived.Deep.WholeRow
namespace Go.Proofs.YtbgdeaeikijdgaaGreatDoor
open Go.RowKit Cx Px
set_option linter.unusedSimpArgs false
set_option linter.unusedVariables false

def cells3 (p : Pt) : List Value := [.string p.op, .int .i64 p.x, .int .i64 p.y]
def cells16 (s : St) : List Value := [.int .i64 s.m.a, .int .i64 s.m.b, .int .i64 s.m.c, .int .i64 s.m.d, .int .i64 s.m.e, .int .i64 s.m.f, .int .i64 s.c.r, .int .i64 s.c.g, .int .i64 s.c.b, .int .i64 s.d.r, .int .i64 s.d.g, .int .i64 s.d.b, .int .i64 s.w, .string s.font, .int .i64 s.size, .int .i64 s.lead]
/-- Where an item's path lies. -/
structure Pd where
  (p : Option Addr) (c : Nat)
def cells18 (r : It × Pd) : List Value := [.int .i64 r.1.kind, .int .i64 r.1.m.a, .int .i64 r.1.m.b, .int .i64 r.1.m.c, .int .i64 r.1.m.d, .int .i64 r.1.m.e, .int .i64 r.1.m.f, .slice r.2.p r.1.path.length r.2.c, .int .i64 r.1.c.r, .int .i64 r.1.c.g, .int .i64 r.1.c.b, .int .i64 r.1.d.r, .int .i64 r.1.d.g, .int .i64 r.1.d.b, .int .i64 r.1.w, .string r.1.font, .int .i64 r.1.size, .string r.1.s]
def flat3 (l : List Pt) : List Value := l.flatMap cells3
def flat16 (l : List St) : List Value := l.flatMap cells16
def flat18 (l : List (It × Pd)) : List Value := l.flatMap cells18
theorem one3 (p : Pt) : ∀ u ∈ cells3 p, u.oneCell' = true := by
  intro u hu
  simp only [cells3, List.mem_cons, List.not_mem_nil, or_false] at hu
  rcases hu with rfl | rfl | rfl <;> rfl
theorem one16 (p : St) : ∀ u ∈ cells16 p, u.oneCell' = true := by
  intro u hu
  simp only [cells16, List.mem_cons, List.not_mem_nil, or_false] at hu
  rcases hu with rfl | rfl | rfl | rfl | rfl | rfl | rfl | rfl | rfl | rfl | rfl | rfl | rfl | rfl | rfl | rfl <;> rfl
theorem one18 (p : It × Pd) : ∀ u ∈ cells18 p, u.oneCell' = true := by
  intro u hu
  simp only [cells18, List.mem_cons, List.not_mem_nil, or_false] at hu
  rcases hu with rfl | rfl | rfl | rfl | rfl | rfl | rfl | rfl | rfl | rfl | rfl | rfl | rfl | rfl | rfl | rfl | rfl | rfl <;> rfl
theorem one3L {l : List Pt} : ∀ u ∈ flat3 l, u.oneCell' = true := fun u hu => by
  obtain ⟨p, _, hp⟩ := List.mem_flatMap.1 hu
  exact one3 p u hp
theorem flat3_snoc (l : List Pt) (x : Pt) : flat3 (l ++ [x]) = flat3 l ++ cells3 x := by unfold flat3; rw [List.flatMap_append]; simp
theorem flat16_snoc (l : List St) (x : St) : flat16 (l ++ [x]) = flat16 l ++ cells16 x := by unfold flat16; rw [List.flatMap_append]; simp
theorem flat18_snoc (l : List (It × Pd)) (x : It × Pd) : flat18 (l ++ [x]) = flat18 l ++ cells18 x := by unfold flat18; rw [List.flatMap_append]; simp
theorem flat3_len (l : List Pt) : (flat3 l).length = l.length * 3 := flat_len _ 3 (fun _ => rfl) l
theorem flat3_get (l : List Pt) (i q : Nat) (hi : i < l.length) (hq : q < 3) : (flat3 l)[i * 3 + q]? = (cells3 l[i])[q]? := flat_get cells3 3 (fun _ => rfl) l i q hi hq
theorem flat16_get (l : List St) (i q : Nat) (hi : i < l.length) (hq : q < 16) : (flat16 l)[i * 16 + q]? = (cells16 l[i])[q]? := flat_get cells16 16 (fun _ => rfl) l i q hi hq
theorem flat18_get (l : List (It × Pd)) (i q : Nat) (hi : i < l.length) (hq : q < 18) : (flat18 l)[i * 18 + q]? = (cells18 l[i])[q]? := flat_get cells18 18 (fun _ => rfl) l i q hi hq

theorem info_pt : (Tryz.prog.info? 48).map (fun i => (i.zero, i.size, i.bytes)) = some (some (.agg #[.string ⟨#[]⟩, .int .i64 0, .int .i64 0]), 3, 32) := by kernel_rfl
theorem info_st : (Tryz.prog.info? 72).map (fun i => (i.zero, i.size, i.bytes)) = some (some (.agg #[.int .i64 0, .int .i64 0, .int .i64 0, .int .i64 0, .int .i64 0, .int .i64 0, .int .i64 0, .int .i64 0, .int .i64 0, .int .i64 0, .int .i64 0, .int .i64 0, .int .i64 0, .string ⟨#[]⟩, .int .i64 0, .int .i64 0]), 16, 136) := by kernel_rfl
theorem info_it : (Tryz.prog.info? 32).map (fun i => (i.zero, i.size, i.bytes)) = some (some (.agg #[.int .i64 0, .int .i64 0, .int .i64 0, .int .i64 0, .int .i64 0, .int .i64 0, .int .i64 0, .slice none 0 0, .int .i64 0, .int .i64 0, .int .i64 0, .int .i64 0, .int .i64 0, .int .i64 0, .int .i64 0, .string ⟨#[]⟩, .int .i64 0, .string ⟨#[]⟩]), 18, 176) := by kernel_rfl

/-- Where a path's points lie. -/
def PtR (P : Nat → Prop) (w : World) (p : Option Addr) (l : List Pt) : Prop :=
  ∀ i (hi : i < l.length), ∃ b off, p = some ⟨b, off, none⟩ ∧ P b ∧ b < w.heap.size ∧ w.cell? ⟨b, off + i * 3, none⟩ = some (.string l[i].op) ∧ w.cell? ⟨b, off + i * 3 + 1, none⟩ = some (.int .i64 l[i].x) ∧ w.cell? ⟨b, off + i * 3 + 2, none⟩ = some (.int .i64 l[i].y)
theorem PtR.keep {P P' : Nat → Prop} {w w' : World} {p : Option Addr} {l : List Pt} (h : PtR P w p l) (hs : w.heap.size ≤ w'.heap.size) (hP : ∀ b, P b → b < w.heap.size → P' b ∧ w'.heap[b]? = w.heap[b]?) : PtR P' w' p l := by
  intro i hi
  obtain ⟨b, off, hp, hb, hlt, c0, c1, c2⟩ := h i hi
  have key : ∀ o v, w.cell? ⟨b, o, none⟩ = some v → w'.cell? ⟨b, o, none⟩ = some v := fun o v hv => by
    rw [World.cell?_of_block (w := w) (a := ⟨b, o, none⟩) (hP b hb hlt).2]; exact hv
  exact ⟨b, off, hp, (hP b hb hlt).1, by omega, key _ _ c0, key _ _ c1, key _ _ c2⟩
theorem PtR.kept {P : Nat → Prop} {w w' : World} {p : Option Addr} {l : List Pt} (h : PtR P w p l) (k : Kept w w') : PtR P w' p l := h.keep (Below.size k) fun b hb hlt => ⟨hb, k.below.block b hlt⟩
theorem PtR.any {P : Nat → Prop} {w : World} {p : Option Addr} {l : List Pt} (h : PtR P w p l) : PtR (fun _ => True) w p l := h.keep (Nat.le_refl _) fun b hb _ => ⟨trivial, rfl⟩
theorem PtR.nil (P : Nat → Prop) (w : World) (p : Option Addr) : PtR P w p [] := fun i hi => absurd hi (Nat.not_lt_zero _)

/-- Where items lie. -/
structure ItR (P : Nat → Prop) (w : World) (p : Option Addr) (rs : List (It × Pd)) : Prop where
  at' : ∀ i (hi : i < rs.length), ∃ b off, p = some ⟨b, off, none⟩ ∧ P b ∧ b < w.heap.size ∧ ∀ q u, (cells18 rs[i])[q]? = some u → w.cell? ⟨b, off + i * 18 + q, none⟩ = some u
  paths : ∀ r ∈ rs, PtR P w r.2.p r.1.path
theorem ItR.keep {P P' : Nat → Prop} {w w' : World} {p : Option Addr} {rs : List (It × Pd)} (h : ItR P w p rs) (hs : w.heap.size ≤ w'.heap.size) (hP : ∀ b, P b → b < w.heap.size → P' b ∧ w'.heap[b]? = w.heap[b]?) : ItR P' w' p rs := by
  refine ⟨fun i hi => ?_, fun r hr => (h.paths r hr).keep hs hP⟩
  obtain ⟨b, off, hp, hb, hlt, c⟩ := h.at' i hi
  exact ⟨b, off, hp, (hP b hb hlt).1, by omega, fun q u hq => by
    rw [World.cell?_of_block (w := w) (a := ⟨b, off + i * 18 + q, none⟩) (hP b hb hlt).2]; exact c q u hq⟩
theorem ItR.kept {P : Nat → Prop} {w w' : World} {p : Option Addr} {rs : List (It × Pd)} (h : ItR P w p rs) (k : Kept w w') : ItR P w' p rs := h.keep (Below.size k) fun b hb hlt => ⟨hb, k.below.block b hlt⟩
theorem ItR.any {P : Nat → Prop} {w : World} {p : Option Addr} {rs : List (It × Pd)} (h : ItR P w p rs) : ItR (fun _ => True) w p rs := h.keep (Nat.le_refl _) fun b hb _ => ⟨trivial, rfl⟩

/-- Nothing of a world has turned but two blocks. -/
structure F2 (pb sb : Nat) (w w' : World) : Prop where
  os : w'.os = w.os
  tape : w'.tape = w.tape
  output : w'.output = w.output
  size : w.heap.size ≤ w'.heap.size
  block : ∀ b, b < w.heap.size → b ≠ pb → b ≠ sb → w'.heap[b]? = w.heap[b]?
theorem F2.refl (pb sb : Nat) (w : World) : F2 pb sb w w := ⟨rfl, rfl, rfl, Nat.le_refl _, fun _ _ _ _ => rfl⟩
theorem F2.grown {pb sb : Nat} {a b c : World} (h : F2 pb sb a b) {r : Option Nat} (g : b.grownBy c r) (hr : ∀ k, r = some k → k = pb ∨ k = sb ∨ a.heap.size ≤ k) : F2 pb sb a c :=
  ⟨g.os.trans h.os, g.tape.trans h.tape, g.output.trans h.output, Nat.le_trans h.size g.size, fun k hk n m => (g.block k (by have := h.size; omega) (fun e => by rcases hr k e.symm with e | e | e <;> omega)).trans (h.block k hk n m)⟩
theorem F2.kept {pb sb : Nat} {a b c : World} (h : F2 pb sb a b) (k : Kept b c) : F2 pb sb a c := h.grown (gb_kept k none) fun _ e => by cases e

/-- The pen's cells. -/
def penC (P : Pen) (kv pv : Value) (sb : Nat) : Array Value := #[.int .i64 P.st.m.a, .int .i64 P.st.m.b, .int .i64 P.st.m.c, .int .i64 P.st.m.d, .int .i64 P.st.m.e, .int .i64 P.st.m.f, .int .i64 P.st.c.r, .int .i64 P.st.c.g, .int .i64 P.st.c.b, .int .i64 P.st.d.r, .int .i64 P.st.d.g, .int .i64 P.st.d.b, .int .i64 P.st.w, .string P.st.font, .int .i64 P.st.size, .int .i64 P.st.lead, kv, pv, .int .i64 P.t.a, .int .i64 P.t.b, .int .i64 P.t.c, .int .i64 P.t.d, .int .i64 P.t.e, .int .i64 P.t.f, .pointer (some ⟨sb, 0, none⟩), .int .i64 0, .int .i64 0, .int .i64 0, .string ⟨#[]⟩, .slice none 0 0, .slice none 0 0, .slice none 0 0]
def sheetC (iv : Value) : Array Value := #[.slice none 0 0, .int .i64 0, .int .i64 0, .int .i64 0, .string ⟨#[]⟩, .slice none 0 0, .slice none 0 0, iv]

structure PenM (wB : World) (pb sb : Nat) (w : World) (cs ss : Array Value) (K : List St) (kv : Value) (L : List Pt) (pv : Value) (I : List (It × Pd)) (iv : Value) : Prop where
  hp : Blk w pb cs 89
  hs : Blk w sb ss 67
  lt : sb < pb ∧ pb < wB.heap.size
  hk : w.ownsRow wB.heap.size 72 16 kv K.length (flat16 K)
  hl : w.ownsRow wB.heap.size 48 3 pv L.length (flat3 L)
  hi : w.ownsRow wB.heap.size 32 18 iv I.length (flat18 I)
  dkl : ∀ b, kv.ownBlock = some b → pv.ownBlock ≠ some b
  dki : ∀ b, kv.ownBlock = some b → iv.ownBlock ≠ some b
  dli : ∀ b, pv.ownBlock = some b → iv.ownBlock ≠ some b
  it : ∀ r ∈ I, PtR (fun b => wB.heap.size ≤ b ∧ kv.ownBlock ≠ some b ∧ pv.ownBlock ≠ some b ∧ iv.ownBlock ≠ some b) w r.2.p r.1.path
  fr : F2 pb sb wB w

section
variable {wB w w' : World} {pb sb : Nat} {cs ss : Array Value} {K : List St} {kv : Value} {L : List Pt} {pv : Value} {I : List (It × Pd)} {iv : Value}
theorem PenM.lts (h : PenM wB pb sb w cs ss K kv L pv I iv) : sb < w.heap.size ∧ pb < w.heap.size := ⟨h.hs.lt, h.hp.lt⟩
/-- On to a world where neither the two blocks nor the rows nor what lay ahead have turned. -/
theorem PenM.kept (h : PenM wB pb sb w cs ss K kv L pv I iv) (k : Kept w w') : PenM wB pb sb w' cs ss K kv L pv I iv :=
  have nn : ∀ v : Value, v.ownBlock = none ∨ v.ownBlock ≠ none := fun v => by cases v.ownBlock <;> simp
  ⟨h.hp.kept k, h.hs.kept k, h.lt, h.hk.kept (gb_kept k none) (nn _), h.hl.kept (gb_kept k none) (nn _), h.hi.kept (gb_kept k none) (nn _), h.dkl, h.dki, h.dli, fun r hr => (h.it r hr).kept k, h.fr.kept k⟩
theorem PenM.alloc (h : PenM wB pb sb w cs ss K kv L pv I iv) (o : Obj) : PenM wB pb sb (w.alloc o) cs ss K kv L pv I iv := h.kept ((Kept.refl w).allocO o)
theorem PenM.drew (h : PenM wB pb sb w cs ss K kv L pv I iv) : PenM wB pb sb w.drew cs ss K kv L pv I iv := h.kept (Kept.refl w).drew
theorem PenM.drewN (h : PenM wB pb sb w cs ss K kv L pv I iv) (n : Nat) : PenM wB pb sb (w.drewN n) cs ss K kv L pv I iv := h.kept ((Kept.refl w).drewN n)
theorem own_set {w : World} {B T n m k : Nat} {v : Value} {xs : List Value} (h : w.ownsRow B T n v m xs) (hk : k < B) : v.ownBlock = none ∨ v.ownBlock ≠ some k := .inr fun e => by have := (h.lt k e).1; omega
theorem PenM.setP (h : PenM wB pb sb w cs ss K kv L pv I iv) (o : Nat) (v : Value) : PenM wB pb sb (w.setCell ⟨pb, o, none⟩ v) (cs.setIfInBounds o v) ss K kv L pv I iv := by
  have g := gb_setAt w pb o v
  have hlt := h.lt
  exact ⟨h.hp.set o v, h.hs.other (by omega) v, hlt, h.hk.kept g (own_set h.hk (by omega)), h.hl.kept g (own_set h.hl (by omega)), h.hi.kept g (own_set h.hi (by omega)), h.dkl, h.dki, h.dli,
    fun r hr => (h.it r hr).keep g.size fun b hb hlt' => ⟨hb, g.block b hlt' (fun e => by cases e; omega)⟩, h.fr.grown g fun k e => by cases e; exact .inl rfl⟩
theorem PenM.setS (h : PenM wB pb sb w cs ss K kv L pv I iv) (o : Nat) (v : Value) : PenM wB pb sb (w.setCell ⟨sb, o, none⟩ v) cs (ss.setIfInBounds o v) K kv L pv I iv := by
  have g := gb_setAt w sb o v
  have hlt := h.lt
  exact ⟨h.hp.other (by omega) v, h.hs.set o v, hlt, h.hk.kept g (own_set h.hk (by omega)), h.hl.kept g (own_set h.hl (by omega)), h.hi.kept g (own_set h.hi (by omega)), h.dkl, h.dki, h.dli,
    fun r hr => (h.it r hr).keep g.size fun b hb hlt' => ⟨hb, g.block b hlt' (fun e => by cases e; omega)⟩, h.fr.grown g fun k e => by cases e; exact .inr (.inl rfl)⟩
theorem PenM.cast {cs' ss' : Array Value} (h : PenM wB pb sb w cs ss K kv L pv I iv) (e : cs = cs') (e' : ss = ss') : PenM wB pb sb w cs' ss' K kv L pv I iv := by subst e e'; exact h

theorem own_ne {T n : Nat} {m : Nat} {v : Value} {xs : List Value} (h : w.ownsRow wB.heap.size T n v m xs) {b : Nat} (hb : b < wB.heap.size) : some b ≠ v.ownBlock := fun e => by have := (h.lt b e.symm).1; omega
/-- One row goes on: what that lets be. -/
theorem PenM.grow (h : PenM wB pb sb w cs ss K kv L pv I iv) {r : Option Nat} (g : w.grownBy w' r) (hr : ∀ k, r = some k → wB.heap.size ≤ k) :
    Blk w' pb cs 89 ∧ Blk w' sb ss 67 ∧ F2 pb sb wB w' := by
  have hlt := h.lt
  have hz := h.fr.size
  refine ⟨?_, ?_, h.fr.grown g fun k e => .inr (.inr (hr k e))⟩
  · have := g.block pb h.hp.lt (fun e => by have := hr pb e.symm; omega)
    unfold Blk; rw [this]; exact h.hp
  · have := g.block sb h.hs.lt (fun e => by have := hr sb e.symm; omega)
    unfold Blk; rw [this]; exact h.hs
theorem PenM.appL (h : PenM wB pb sb w cs ss K kv L pv I iv) {pv' : Value} {x : Pt} (own' : w'.ownsRow wB.heap.size 48 3 pv' (L.length + 1) (flat3 L ++ cells3 x)) (g : w.grownBy w' pv.ownBlock)
    (hb : ∀ b, pv'.ownBlock = some b → pv.ownBlock = some b ∨ w.heap.size ≤ b) : PenM wB pb sb w' cs ss K kv (L ++ [x]) pv' I iv := by
  obtain ⟨a1, a2, a3⟩ := h.grow g fun k e => (h.hl.lt k e).1
  have sp : ∀ (v : Value), (∀ b, v.ownBlock = some b → pv.ownBlock ≠ some b) → v.ownBlock = none ∨ v.ownBlock ≠ pv.ownBlock := fun v hv => by
    cases e : v.ownBlock with
    | none => exact .inl rfl
    | some b => exact .inr fun e' => hv b e e'.symm
  have ski := sp iv fun b e e' => h.dli b e' e
  have skk := sp kv h.dkl
  refine ⟨a1, a2, h.lt, h.hk.kept g skk, by rw [flat3_snoc, List.length_append]; exact own', h.hi.kept g ski, ?_, h.dki, ?_, ?_, a3⟩
  · intro b e e'
    rcases hb b e' with e' | e'
    · exact h.dkl b e e'
    · have := (h.hk.lt b e).2; omega
  · intro b e e'
    rcases hb b e with e | e
    · exact h.dli b e e'
    · have := (h.hi.lt b e').2; omega
  · intro r hr
    refine (h.it r hr).keep g.size fun b hb' hlt => ⟨⟨hb'.1, hb'.2.1, ?_, hb'.2.2.2⟩, g.block b hlt (fun e => hb'.2.2.1 e.symm)⟩
    intro e
    rcases hb b e with e | e
    · exact hb'.2.2.1 e
    · omega
theorem PenM.appK (h : PenM wB pb sb w cs ss K kv L pv I iv) {kv' : Value} {x : St} (own' : w'.ownsRow wB.heap.size 72 16 kv' (K.length + 1) (flat16 K ++ cells16 x)) (g : w.grownBy w' kv.ownBlock)
    (hb : ∀ b, kv'.ownBlock = some b → kv.ownBlock = some b ∨ w.heap.size ≤ b) : PenM wB pb sb w' cs ss (K ++ [x]) kv' L pv I iv := by
  obtain ⟨a1, a2, a3⟩ := h.grow g fun k e => (h.hk.lt k e).1
  have sp : ∀ (v : Value), (∀ b, v.ownBlock = some b → kv.ownBlock ≠ some b) → v.ownBlock = none ∨ v.ownBlock ≠ kv.ownBlock := fun v hv => by
    cases e : v.ownBlock with
    | none => exact .inl rfl
    | some b => exact .inr fun e' => hv b e e'.symm
  have ski := sp iv fun b e e' => h.dki b e' e
  have skk := sp pv fun b e e' => h.dkl b e' e
  refine ⟨a1, a2, h.lt, by rw [flat16_snoc, List.length_append]; exact own', h.hl.kept g skk, h.hi.kept g ski, ?_, ?_, h.dli, ?_, a3⟩
  · intro b e e'
    rcases hb b e with e | e
    · exact h.dkl b e e'
    · have := (h.hl.lt b e').2; omega
  · intro b e e'
    rcases hb b e with e | e
    · exact h.dki b e e'
    · have := (h.hi.lt b e').2; omega
  · intro r hr
    refine (h.it r hr).keep g.size fun b hb' hlt => ⟨⟨hb'.1, ?_, hb'.2.2.1, hb'.2.2.2⟩, g.block b hlt (fun e => hb'.2.1 e.symm)⟩
    intro e
    rcases hb b e with e | e
    · exact hb'.2.1 e
    · omega
theorem PenM.appI (h : PenM wB pb sb w cs ss K kv L pv I iv) {iv' : Value} {x : It × Pd} (own' : w'.ownsRow wB.heap.size 32 18 iv' (I.length + 1) (flat18 I ++ cells18 x)) (g : w.grownBy w' iv.ownBlock)
    (hx : PtR (fun b => wB.heap.size ≤ b ∧ kv.ownBlock ≠ some b ∧ pv.ownBlock ≠ some b ∧ iv.ownBlock ≠ some b) w x.2.p x.1.path)
    (hb : ∀ b, iv'.ownBlock = some b → iv.ownBlock = some b ∨ w.heap.size ≤ b) : PenM wB pb sb w' cs ss K kv L pv (I ++ [x]) iv' := by
  obtain ⟨a1, a2, a3⟩ := h.grow g fun k e => (h.hi.lt k e).1
  have sp : ∀ (v : Value), (∀ b, v.ownBlock = some b → iv.ownBlock ≠ some b) → v.ownBlock = none ∨ v.ownBlock ≠ iv.ownBlock := fun v hv => by
    cases e : v.ownBlock with
    | none => exact .inl rfl
    | some b => exact .inr fun e' => hv b e e'.symm
  refine ⟨a1, a2, h.lt, h.hk.kept g (sp kv h.dki), h.hl.kept g (sp pv h.dli), by rw [flat18_snoc, List.length_append]; exact own', h.dkl, ?_, ?_, ?_, a3⟩
  · intro b e e'
    rcases hb b e' with e' | e'
    · exact h.dki b e e'
    · have := (h.hk.lt b e).2; omega
  · intro b e e'
    rcases hb b e' with e' | e'
    · exact h.dli b e e'
    · have := (h.hl.lt b e).2; omega
  · intro r hr
    have hr' : PtR (fun b => wB.heap.size ≤ b ∧ kv.ownBlock ≠ some b ∧ pv.ownBlock ≠ some b ∧ iv.ownBlock ≠ some b) w r.2.p r.1.path := by
      rcases List.mem_append.1 hr with hr | hr
      · exact h.it r hr
      · rw [List.mem_singleton.1 hr]; exact hx
    refine hr'.keep g.size fun b hb' hlt => ⟨⟨hb'.1, hb'.2.1, hb'.2.2.1, ?_⟩, g.block b hlt (fun e => hb'.2.2.2 e.symm)⟩
    intro e
    rcases hb b e with e | e
    · exact hb'.2.2.2 e
    · omega
/-- A row's first ones alone. -/
theorem own_cut {T n m : Nat} {p : Option Addr} {c k : Nat} {xs ys : List Value} {B : Nat} (h : w.ownsRow B T n (.slice p m c) m xs) (hk : k ≤ m) (hy : ys = xs.take (k * n)) (hp : p = none → k = m) : w.ownsRow B T n (.slice p k c) k ys := by
  obtain ⟨h1, h2⟩ := h
  refine ⟨by rw [hy, List.length_take, h1]; exact Nat.min_eq_left (Nat.mul_le_mul_right _ hk), ?_⟩
  rcases h2 with ⟨e, e'⟩ | ⟨g, cap, cur, e, hb, hg, hc, hc', hz, ht⟩
  · injection e with e1 e2 e3
    subst e1 e3
    obtain rfl := hp rfl
    subst e'
    exact .inl ⟨rfl, rfl⟩
  · injection e with e1 e2 e3
    subst e1 e3
    refine .inr ⟨g, c, cur, rfl, hb, hg, by omega, hc', hz, ?_⟩
    rw [hy, ← ht, List.take_take]
    congr 1
    exact (Nat.min_eq_left (Nat.mul_le_mul_right _ hk)).symm
theorem PenM.cutL {p : Option Addr} {n c : Nat} (h : PenM wB pb sb w cs ss K kv L (.slice p n c) I iv) : PenM wB pb sb w cs ss K kv [] (.slice p 0 c) I iv := by
  have e : (Value.slice p n c).ownBlock = (Value.slice p 0 c).ownBlock := by cases p <;> rfl
  have hn : n = L.length := by
    rcases h.hl.2 with ⟨e, e'⟩ | ⟨g, cap, cur, e, -⟩
    · injection e with e1 e2 e3; omega
    · injection e
  subst hn
  refine ⟨h.hp, h.hs, h.lt, h.hk, ?_, h.hi, by rw [← e]; exact h.dkl, h.dki, by rw [← e]; exact h.dli, by rw [← e]; exact h.it, h.fr⟩
  refine own_cut h.hl (Nat.zero_le _) (by simp [flat3]) fun hp => ?_
  subst hp
  rcases h.hl.2 with ⟨e, e'⟩ | ⟨g, cap, cur, e, -⟩
  · exact e'.symm
  · injection e with e1; cases e1
theorem PenM.cutK {K' : List St} {s : St} {p : Option Addr} {n c : Nat} (h : PenM wB pb sb w cs ss K (.slice p n c) L pv I iv) (hK : K = K' ++ [s]) : PenM wB pb sb w cs ss K' (.slice p K'.length c) L pv I iv := by
  have e : (Value.slice p n c).ownBlock = (Value.slice p K'.length c).ownBlock := by cases p <;> rfl
  have hn : n = K.length := by
    rcases h.hk.2 with ⟨e, e'⟩ | ⟨g, cap, cur, e, -⟩
    · injection e with e1 e2 e3; omega
    · injection e
  subst hn
  have hl : K.length = K'.length + 1 := by rw [hK, List.length_append]; rfl
  refine ⟨h.hp, h.hs, h.lt, ?_, h.hl, h.hi, by rw [← e]; exact h.dkl, by rw [← e]; exact h.dki, h.dli, by rw [← e]; exact h.it, h.fr⟩
  refine own_cut h.hk (by omega) ?_ fun hp => ?_
  · have e1 : flat16 K = flat16 K' ++ cells16 s := by rw [hK, flat16_snoc]
    have e2 : (flat16 K').length = K'.length * 16 := flat_len _ 16 (fun _ => rfl) K'
    rw [e1, ← e2, List.take_left]
  · subst hp
    rcases h.hk.2 with ⟨e, e'⟩ | ⟨g, cap, cur, e, -⟩
    · omega
    · injection e with e1; cases e1
theorem own_shape {B T n m : Nat} {v : Value} {xs : List Value} (h : w.ownsRow B T n v m xs) : ∃ p c, v = .slice p m c ∧ (p = none → m = 0 ∧ c = 0) ∧ (∀ ad, p = some ad → ad = ⟨ad.block, 0, none⟩) := by
  rcases h.2 with ⟨e, e'⟩ | ⟨g, cap, cur, e, -⟩
  · exact ⟨none, 0, by rw [e, e'], fun _ => ⟨e', rfl⟩, fun _ e => by cases e⟩
  · exact ⟨_, _, e, fun e => (by cases e), fun ad e => by cases e; rfl⟩

/-- A pen in memory. -/
def PenR (wB : World) (pb sb : Nat) (w : World) (P : Pen) : Prop := ∃ kv pv iv, ∃ I : List (It × Pd), I.map (·.1) = P.out ∧ PenM wB pb sb w (penC P kv pv sb) (sheetC iv) P.kept kv P.path pv I iv
theorem PenR.kept {P : Pen} (h : PenR wB pb sb w P) (k : Kept w w') : PenR wB pb sb w' P := by
  obtain ⟨kv, pv, iv, I, hI, h⟩ := h
  exact ⟨kv, pv, iv, I, hI, h.kept k⟩
end

end Go.Proofs.YtbgdeaeikijdgaaGreatDoor

namespace Go.Proofs.YtbgdeaeikijdgaaGreatDoor
open Go.RowKit Cx Px
set_option linter.unusedSimpArgs false
set_option linter.unusedVariables false

section
variable {wB W : World} {pb sb : Nat} {cs ss : Array Value} {K : List St} {kv : Value} {L : List Pt} {pv : Value} {I : List (It × Pd)} {iv : Value}

theorem blk_news {W : World} {g : Nat} {l : List Value} {T : TypeId} (hb : Blk W g l.toArray T) : ∀ j u, l[j]? = some u → W.cell? ((⟨g, 0, none⟩ : Addr).add j) = some u := fun j u hj => by
  rw [Addr.add_lit, Nat.zero_add, hb.cell j]
  simpa using hj

set_option maxRecDepth 100000 in
/-- 'append(p.path, x)', at the walk's list of operations. -/
theorem wpList_app_pt {ops : Array Oper} {rest : List Oper} {o : Oper} {a : Act} {Q : Exit → Act → World → Prop} (hgd : o.guard = none) (s y : Operand)
    (ho : o.op = .call { callee := .builtin .append, args := #[s, y], argTypes := #[29, 29] })
    (h : PenM wB pb sb W cs ss K kv L pv I iv) (hs : a.eval s = pv) (x : Pt) (g : Nat) (hb : Blk W g (cells3 x).toArray 48) (hx : a.eval y = .slice (some ⟨g, 0, none⟩) 1 1) (hlen : L.length ≤ 1099511627776)
    (k : ∀ g' cap w', PenM wB pb sb w' cs ss K kv (L ++ [x]) (.slice (some ⟨g', 0, none⟩) (L.length + 1) cap) I iv → Hid (W.heap.size ≤ w'.heap.size) → wpList Tryz.prog ops Q rest (a.put o.dst (.slice (some ⟨g', 0, none⟩) (L.length + 1) cap)) w') :
    wpList Tryz.prog ops Q (o :: rest) a W := by
  obtain ⟨i0, hi, hz0, hz1, hz2⟩ := info_parts info_pt
  refine wpList_append_lies _ hgd s y 29 ho wB.heap.size 48 i0 _ 3 32 Tryz.underlying29 hi hz0 hz1 hz2 rfl (by decide) pv L.length (flat3 L) hs h.hl ⟨g, 0, none⟩ 1 1 (cells3 x) hx rfl
    (blk_news hb) (one3 _) (by decide) (by unfold maxLen; omega) (by omega) h.fr.size _ rfl ?_
  intro g' cap w' h1 h2 h3 h4
  refine k g' cap w' (h.appL h1 h2 fun b e => ?_) (Lib.hid h2.size)
  cases e
  rcases h3 with h3 | h3
  · exact .inl h3
  · exact .inr (Nat.le_of_eq h3.symm)
set_option maxRecDepth 100000 in
/-- The same at a step of a region that draws its order. -/
theorem step_app_pt {ops : Array Oper} {o : Oper} {a : Act} {KK : Act → World → Prop} {Q : Exit → Act → World → Prop} {E : Prop} (hgd : o.guard = none) (s y : Operand)
    (ho : o.op = .call { callee := .builtin .append, args := #[s, y], argTypes := #[29, 29] })
    (h : PenM wB pb sb W cs ss K kv L pv I iv) (hs : a.eval s = pv) (x : Pt) (g : Nat) (hb : Blk W g (cells3 x).toArray 48) (hx : a.eval y = .slice (some ⟨g, 0, none⟩) 1 1) (hlen : L.length ≤ 1099511627776)
    (k : ∀ g' cap w', PenM wB pb sb w' cs ss K kv (L ++ [x]) (.slice (some ⟨g', 0, none⟩) (L.length + 1) cap) I iv → Hid (W.heap.size ≤ w'.heap.size) → KK (a.put o.dst (.slice (some ⟨g', 0, none⟩) (L.length + 1) cap)) w') :
    if Region.wanted o (yielded ops a.tmps) = true then Oper.wp Tryz.prog o a W KK Q else E := by
  obtain ⟨i0, hi, hz0, hz1, hz2⟩ := info_parts info_pt
  refine step_append_lies _ hgd s y 29 ho wB.heap.size 48 i0 _ 3 32 Tryz.underlying29 hi hz0 hz1 hz2 rfl (by decide) pv L.length (flat3 L) hs h.hl ⟨g, 0, none⟩ 1 1 (cells3 x) hx rfl
    (blk_news hb) (one3 _) (by decide) (by unfold maxLen; omega) (by omega) h.fr.size _ rfl ?_
  intro g' cap w' h1 h2 h3 h4
  refine k g' cap w' (h.appL h1 h2 fun b e => ?_) (Lib.hid h2.size)
  cases e
  rcases h3 with h3 | h3
  · exact .inl h3
  · exact .inr (Nat.le_of_eq h3.symm)
set_option maxRecDepth 100000 in
theorem step_app_st {ops : Array Oper} {o : Oper} {a : Act} {KK : Act → World → Prop} {Q : Exit → Act → World → Prop} {E : Prop} (hgd : o.guard = none) (s y : Operand)
    (ho : o.op = .call { callee := .builtin .append, args := #[s, y], argTypes := #[87, 87] })
    (h : PenM wB pb sb W cs ss K kv L pv I iv) (hs : a.eval s = kv) (x : St) (g : Nat) (hb : Blk W g (cells16 x).toArray 72) (hx : a.eval y = .slice (some ⟨g, 0, none⟩) 1 1) (hlen : K.length ≤ 1073741824)
    (k : ∀ g' cap w', PenM wB pb sb w' cs ss (K ++ [x]) (.slice (some ⟨g', 0, none⟩) (K.length + 1) cap) L pv I iv → Hid (W.heap.size ≤ w'.heap.size) → KK (a.put o.dst (.slice (some ⟨g', 0, none⟩) (K.length + 1) cap)) w') :
    if Region.wanted o (yielded ops a.tmps) = true then Oper.wp Tryz.prog o a W KK Q else E := by
  obtain ⟨i0, hi, hz0, hz1, hz2⟩ := info_parts info_st
  refine step_append_lies _ hgd s y 87 ho wB.heap.size 72 i0 _ 16 136 Tryz.underlying87 hi hz0 hz1 hz2 rfl (by decide) kv K.length (flat16 K) hs h.hk ⟨g, 0, none⟩ 1 1 (cells16 x) hx rfl
    (blk_news hb) (one16 _) (by decide) (by unfold maxLen; omega) (by omega) h.fr.size _ rfl ?_
  intro g' cap w' h1 h2 h3 h4
  refine k g' cap w' (h.appK h1 h2 fun b e => ?_) (Lib.hid h2.size)
  cases e
  rcases h3 with h3 | h3
  · exact .inl h3
  · exact .inr (Nat.le_of_eq h3.symm)
set_option maxRecDepth 100000 in
theorem step_app_it {ops : Array Oper} {o : Oper} {a : Act} {KK : Act → World → Prop} {Q : Exit → Act → World → Prop} {E : Prop} (hgd : o.guard = none) (s y : Operand)
    (ho : o.op = .call { callee := .builtin .append, args := #[s, y], argTypes := #[24, 24] })
    (h : PenM wB pb sb W cs ss K kv L pv I iv) (hs : a.eval s = iv) (x : It × Pd) (g : Nat) (hb : Blk W g (cells18 x).toArray 32) (hx : a.eval y = .slice (some ⟨g, 0, none⟩) 1 1) (hlen : I.length ≤ 1073741824)
    (hp : PtR (fun b => wB.heap.size ≤ b ∧ kv.ownBlock ≠ some b ∧ pv.ownBlock ≠ some b ∧ iv.ownBlock ≠ some b) W x.2.p x.1.path)
    (k : ∀ g' cap w', PenM wB pb sb w' cs ss K kv L pv (I ++ [x]) (.slice (some ⟨g', 0, none⟩) (I.length + 1) cap) → Hid (W.heap.size ≤ w'.heap.size) → KK (a.put o.dst (.slice (some ⟨g', 0, none⟩) (I.length + 1) cap)) w') :
    if Region.wanted o (yielded ops a.tmps) = true then Oper.wp Tryz.prog o a W KK Q else E := by
  obtain ⟨i0, hi, hz0, hz1, hz2⟩ := info_parts info_it
  refine step_append_lies _ hgd s y 24 ho wB.heap.size 32 i0 _ 18 176 Tryz.underlying24 hi hz0 hz1 hz2 rfl (by decide) iv I.length (flat18 I) hs h.hi ⟨g, 0, none⟩ 1 1 (cells18 x) hx rfl
    (blk_news hb) (one18 _) (by decide) (by unfold maxLen; omega) (by omega) h.fr.size _ rfl ?_
  intro g' cap w' h1 h2 h3 h4
  refine k g' cap w' (h.appI h1 h2 hp fun b e => ?_) (Lib.hid h2.size)
  cases e
  rcases h3 with h3 | h3
  · exact .inl h3
  · exact .inr (Nat.le_of_eq h3.symm)
end

/-- Where 32 cells lie: by number. -/
theorem PenM.at {wB w : World} {pb sb : Nat} {P : Pen} {ss : Array Value} {K : List St} {kv kv' : Value} {L : List Pt} {pv pv' : Value} {I : List (It × Pd)} {iv : Value} (h : PenM wB pb sb w (penC P kv' pv' sb) ss K kv L pv I iv) (q : Nat) (u : Value) (e : (penC P kv' pv' sb)[q]? = some u) : w.cell? ⟨pb, q, none⟩ = some u := (h.hp.cell q).trans e
theorem PenM.st {wB w : World} {pb sb : Nat} {P : Pen} {ss : Array Value} {K : List St} {kv kv' : Value} {L : List Pt} {pv pv' : Value} {I : List (It × Pd)} {iv : Value} (h : PenM wB pb sb w (penC P kv' pv' sb) ss K kv L pv I iv) :
    w.cell? ⟨pb, 0, none⟩ = some (.int .i64 P.st.m.a) ∧ w.cell? ⟨pb, 1, none⟩ = some (.int .i64 P.st.m.b) ∧ w.cell? ⟨pb, 2, none⟩ = some (.int .i64 P.st.m.c) ∧ w.cell? ⟨pb, 3, none⟩ = some (.int .i64 P.st.m.d) ∧ w.cell? ⟨pb, 4, none⟩ = some (.int .i64 P.st.m.e) ∧ w.cell? ⟨pb, 5, none⟩ = some (.int .i64 P.st.m.f) ∧
    w.cell? ⟨pb, 6, none⟩ = some (.int .i64 P.st.c.r) ∧ w.cell? ⟨pb, 7, none⟩ = some (.int .i64 P.st.c.g) ∧ w.cell? ⟨pb, 8, none⟩ = some (.int .i64 P.st.c.b) ∧ w.cell? ⟨pb, 9, none⟩ = some (.int .i64 P.st.d.r) ∧ w.cell? ⟨pb, 10, none⟩ = some (.int .i64 P.st.d.g) ∧ w.cell? ⟨pb, 11, none⟩ = some (.int .i64 P.st.d.b) ∧
    w.cell? ⟨pb, 12, none⟩ = some (.int .i64 P.st.w) ∧ w.cell? ⟨pb, 13, none⟩ = some (.string P.st.font) ∧ w.cell? ⟨pb, 14, none⟩ = some (.int .i64 P.st.size) ∧ w.cell? ⟨pb, 15, none⟩ = some (.int .i64 P.st.lead) :=
  ⟨h.at 0 _ rfl, h.at 1 _ rfl, h.at 2 _ rfl, h.at 3 _ rfl, h.at 4 _ rfl, h.at 5 _ rfl, h.at 6 _ rfl, h.at 7 _ rfl, h.at 8 _ rfl, h.at 9 _ rfl, h.at 10 _ rfl, h.at 11 _ rfl, h.at 12 _ rfl, h.at 13 _ rfl, h.at 14 _ rfl, h.at 15 _ rfl⟩
theorem PenM.rest {wB w : World} {pb sb : Nat} {P : Pen} {ss : Array Value} {K : List St} {kv kv' : Value} {L : List Pt} {pv pv' : Value} {I : List (It × Pd)} {iv : Value} (h : PenM wB pb sb w (penC P kv' pv' sb) ss K kv L pv I iv) :
    w.cell? ⟨pb, 16, none⟩ = some kv' ∧ w.cell? ⟨pb, 17, none⟩ = some pv' ∧ w.cell? ⟨pb, 18, none⟩ = some (.int .i64 P.t.a) ∧ w.cell? ⟨pb, 19, none⟩ = some (.int .i64 P.t.b) ∧ w.cell? ⟨pb, 20, none⟩ = some (.int .i64 P.t.c) ∧ w.cell? ⟨pb, 21, none⟩ = some (.int .i64 P.t.d) ∧ w.cell? ⟨pb, 22, none⟩ = some (.int .i64 P.t.e) ∧ w.cell? ⟨pb, 23, none⟩ = some (.int .i64 P.t.f) ∧ w.cell? ⟨pb, 24, none⟩ = some (.pointer (some ⟨sb, 0, none⟩)) :=
  ⟨h.at 16 _ rfl, h.at 17 _ rfl, h.at 18 _ rfl, h.at 19 _ rfl, h.at 20 _ rfl, h.at 21 _ rfl, h.at 22 _ rfl, h.at 23 _ rfl, h.at 24 _ rfl⟩

end Go.Proofs.YtbgdeaeikijdgaaGreatDoor

namespace Go.Proofs.YtbgdeaeikijdgaaGreatDoor
open Go.RowKit Cx Px
set_option linter.unusedSimpArgs false
set_option linter.unusedVariables false

theorem it_size : (Tryz.prog.info? 32).map (·.size) = some 18 := by kernel_rfl
theorem setRow_at {w : World} {c c' : Array Value} {t : TypeId} {g : Nat} (h : g = w.heap.size) : (w.alloc (.cells c t)).setRow g c' = w.alloc (.cells c' t) := by
  subst h; exact World.setRow_alloc_new w c c' t
/-- A whole struct stored into a variable that was just made. -/
theorem wpList_store_new (W : World) {ops : Array Oper} {rest : List Oper} {o : Oper} {a : Act} {Q : Exit → Act → World → Prop} (hgd : o.guard = none) (ty : TypeId) (x y : Operand) (ho : o.op = .store ty x y)
    (g : Nat) (cells : List Value) (c : Array Value) (t : TypeId) (hx : a.eval x = .pointer (some ⟨g, 0, none⟩)) (hy : a.eval y = .agg cells.toArray) (hg : g = W.heap.size)
    (hi : (Tryz.prog.info? ty).map (·.size) = some cells.length) (hold : c.size = cells.length) (h1 : ∀ u ∈ cells, u.oneCell' = true)
    (h : wpList Tryz.prog ops Q rest (a.put o.dst undef) (W.alloc (.cells cells.toArray t))) : wpList Tryz.prog ops Q (o :: rest) a (W.alloc (.cells c t)) := by
  refine wpList_store_row hgd ty x y ho g cells.toArray hx hy t c ?_ (by simpa using hi) (by simpa using hold) (all_oneCell_toArray h1) ?_
  · subst hg; exact heap_alloc_new W _
  · rw [setRow_at hg]; exact h
/-- A block's cells as a range. -/
theorem Blk.range {w : World} {b : Nat} {cs : List Value} {t : TypeId} (h : Blk w b cs.toArray t) : w.rangeAt b 0 cs := fun q u hq => by
  rw [Nat.zero_add, h.cell q]; simpa using hq
theorem rangeAt_kept {w w' : World} {b o : Nat} {cs : List Value} (h : w.rangeAt b o cs) (k : Kept w w') (hb : b < w.heap.size) : w'.rangeAt b o cs := fun q u hq => by
  rw [k.cells.1 _ _ hb]; exact h q u hq

end Go.Proofs.YtbgdeaeikijdgaaGreatDoor
