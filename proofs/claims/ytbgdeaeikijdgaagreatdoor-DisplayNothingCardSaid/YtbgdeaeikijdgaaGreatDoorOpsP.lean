/-
  Operators in memory: where they lie; rows of a call's own.
  Which token is an operator, and the object that begins with one.
  One operator of a text, with the objects ahead of it.
  A text as operators: ops.Parse.
-/
import Derived.Test.YtbgdeaeikijdgaaGreatDoorCosRows
import Derived.Test.YtbgdeaeikijdgaaGreatDoorCosP
import Derived.Test.YtbgdeaeikijdgaaGreatDoorLexM
import Derived.Test.YtbgdeaeikijdgaaGreatDoorXBase
import Derived.Test.YtbgdeaeikijdgaaGreatDoorCosD
import Derived.Scope
import Derived.WalkMore
import Derived.ScopeJumps
namespace Go.Proofs.YtbgdeaeikijdgaaGreatDoor
open Go.RowKit Cx
set_option linter.unusedSimpArgs false
set_option linter.unusedVariables false

/-- An operator's two cells: its name, and where its objects lie. -/
def cells2 (r : Ob × Hd) : List Value := [.string r.1.s, .slice r.2.p r.1.l.length r.2.c]
theorem oneCell2 (r : Ob × Hd) : ∀ u ∈ cells2 r, u.oneCell' = true := by
  intro u hu
  simp only [cells2, List.mem_cons, List.not_mem_nil, or_false] at hu
  rcases hu with rfl | rfl <;> rfl
def KP : Kind (Ob × Hd) := ⟨2, by decide, cells2, fun _ => rfl, oneCell2, fun r => r.1, fun r => r.2, 53, 54⟩
theorem info_op : (Tryz.prog.info? 53).map (fun i => (i.zero, i.size, i.bytes)) = some (some (.agg #[.string ⟨#[]⟩, .slice none 0 0]), 2, 40) := by kernel_rfl
abbrev nul2 : Array Value := #[.string ⟨#[]⟩, .slice none 0 0]

/-- Where operators lie: what their cells read as, of the blocks that fit. -/
structure OpR (P : Nat → Prop) (w : World) (p : Option Addr) (rs : ORow) : Prop where
  at' : ∀ i (hi : i < rs.length), ∃ b off, p = some ⟨b, off, none⟩ ∧ P b ∧ b < w.heap.size ∧ w.cell? ⟨b, off + i * 2, none⟩ = some (.string rs[i].1.s) ∧ w.cell? ⟨b, off + i * 2 + 1, none⟩ = some (.slice rs[i].2.p rs[i].1.l.length rs[i].2.c)
  lies : ∀ r ∈ rs, Lies (Cel P w) r.1 r.2
theorem OpR.keep {P P' : Nat → Prop} {w w' : World} {p : Option Addr} {rs : ORow} (h : OpR P w p rs) (hs : w.heap.size ≤ w'.heap.size) (hP : ∀ b, P b → b < w.heap.size → P' b ∧ w'.heap[b]? = w.heap[b]?) : OpR P' w' p rs := by
  refine ⟨fun i hi => ?_, fun r hr => (h.lies r hr).keep hP⟩
  obtain ⟨b, off, hp, hb, hlt, c0, c1⟩ := h.at' i hi
  have key : ∀ o v, w.cell? ⟨b, o, none⟩ = some v → w'.cell? ⟨b, o, none⟩ = some v := fun o v hv => by
    rw [World.cell?_of_block (w := w) (a := ⟨b, o, none⟩) (hP b hb hlt).2]; exact hv
  exact ⟨b, off, hp, (hP b hb hlt).1, by omega, key _ _ c0, key _ _ c1⟩
theorem OpR.kept {P : Nat → Prop} {w w' : World} {p : Option Addr} {rs : ORow} (h : OpR P w p rs) (k : Kept w w') : OpR P w' p rs := h.keep (Below.size k) fun b hb hlt => ⟨hb, k.below.block b hlt⟩
theorem OpR.weak {P P' : Nat → Prop} {w : World} {p : Option Addr} {rs : ORow} (h : OpR P w p rs) (hP : ∀ b, P b → P' b) : OpR P' w p rs := h.keep (Nat.le_refl _) fun b hb _ => ⟨hP b hb, rfl⟩
theorem OpR.any {P : Nat → Prop} {w : World} {p : Option Addr} {rs : ORow} (h : OpR P w p rs) : OpR (fun _ => True) w p rs := h.weak fun _ _ => trivial
theorem OpR.nil (P : Nat → Prop) (w : World) (p : Option Addr) : OpR P w p [] := ⟨fun i hi => absurd hi (Nat.not_lt_zero _), fun r hr => by cases hr⟩

/-- A row of the call's own lies so. -/
theorem OwnK.opR {N : Nat} {w : World} {p : Option Addr} {cap : Nat} {acc : ORow} (h : OwnK KP N w (.slice p acc.length cap) acc) : OpR (fun b => N ≤ b) w p acc := by
  refine ⟨fun i hi => ?_, fun r hr => (h.lies r hr).weak fun _ hb => hb.1⟩
  obtain ⟨b, hp, hr⟩ := h.row i hi
  have h0 := hr 0 _ rfl
  have h1 := hr 1 _ rfl
  refine ⟨b, 0, hp, h0.1, World.block_lt_of_cell? w _ h0.2, ?_, ?_⟩
  · exact h0.2
  · exact h1.2

set_option maxRecDepth 100000 in
/-- 'append(l, op)' to such a row, at the walk's list of operations. -/
theorem wpList_app_op {ops : Array Oper} {rest : List Oper} {o : Oper} {a : Act} {Q : Exit → Act → World → Prop} (hgd : o.guard = none) (s x : Operand)
    (ho : o.op = .call { callee := .builtin .append, args := #[s, x], argTypes := #[54, 54] })
    {W : World} (N : Nat) {v : Value} (acc : ORow) (hown : OwnK KP N W v acc) (hs : a.eval s = v) (r : Ob × Hd) (cells : Array Value) (hc : cells = (cells2 r).toArray)
    (H : Nat) (hH : W.heap.size = H) (hx : a.eval x = .slice (some ⟨H, 0, none⟩) 1 1) (hB : N ≤ W.heap.size) (hlen : acc.length ≤ 4294967296)
    (h : ∀ g cap w', w'.ownsRow N 53 2 (.slice (some ⟨g, 0, none⟩) (acc.length + 1) cap) (acc.length + 1) (KP.flat acc ++ KP.cells r) → (W.alloc (.cells cells 53)).grownBy w' v.ownBlock → (v.ownBlock = some g ∨ g = W.heap.size + 1) → g < w'.heap.size →
      wpList Tryz.prog ops Q rest (a.put o.dst (.slice (some ⟨g, 0, none⟩) (acc.length + 1) cap)) w') :
    wpList Tryz.prog ops Q (o :: rest) a (W.alloc (.cells cells 53)) := by
  obtain ⟨i0, hi, hz0, hz1, hz2⟩ := info_parts info_op
  subst hc
  subst hH
  refine wpList_append_lies _ hgd s x 54 ho N 53 i0 _ 2 40 Tryz.underlying54 hi hz0 hz1 hz2 rfl (by decide) v acc.length (KP.flat acc) hs (hown.own.alloc _) ⟨W.heap.size, 0, none⟩ 1 1 (cells2 r) hx rfl
    ?_ (oneCell2 _) (by decide) (by unfold maxLen; omega) (by omega) (by simp; omega) (W.heap.size + 1) (by simp) h
  intro j u hj
  rw [Addr.add_lit, Nat.zero_add]
  have := (Blk.fresh W (cells2 r).toArray 53).cell j
  rw [this]
  simpa using hj

/-- A cell of the list's first block is set. -/
theorem In.setAt {w wx : World} {l : BlkList} {k : Nat} {cs : Array Value} {t : TypeId} (h : In w ((k, cs, t) :: l) wx) (hw : w.heap.size ≤ k) (n : ∀ x ∈ l, x.1 ≠ k) (o : Nat) (v : Value) : In w ((k, cs.setIfInBounds o v, t) :: l) (wx.setCell ⟨k, o, none⟩ v) :=
  (h.tail.other hw n v).cons ((h.mem List.mem_cons_self).set o v)
theorem OwnK.setOut {α : Type} {K : Kind α} {N : Nat} {w : World} {v : Value} {acc : List α} (h : OwnK K N w v acc) {k : Nat} (hk : k < N) (o : Nat) (u : Value) : OwnK K N (w.setCell ⟨k, o, none⟩ u) v acc :=
  h.gb (gb_setAt w k o u) (fun _ e => by cases e; exact hk)

end Go.Proofs.YtbgdeaeikijdgaaGreatDoor

namespace Go.Proofs.YtbgdeaeikijdgaaGreatDoor
open Go.RowKit Cx
set_option linter.unusedSimpArgs false
set_option linter.unusedVariables false

set_option maxRecDepth 100000 in
set_option maxHeartbeats 1000000 in
theorem isOperator_any (t : Lx.Tok) (w : World) :
    Calls Tryz.prog 45 #[tkV t] w fun e w' => e = .returned (.bool (isOp t)) ∧ Kept w w' := by
  obtain ⟨k, f, s, wh, fr, to⟩ := t
  unfold tkV
  simp only []
  obtain ⟨x, hx⟩ : ∃ x, x = isOp ⟨k, f, s, wh, fr, to⟩ := ⟨_, rfl⟩
  rw [← hx]
  have HX := Lib.hid (show x = (k == 8 && !(s == trueT || s == falseT || s == nullT)) from hx)
  have K1 := Lib.hid ((Kept.refl w).alloc #[.int .i64 k, .int .i64 f, .string ⟨s.toArray⟩, .bool wh, .int .i64 fr, .int .i64 to] 108)
  clear hx
  have hs : (⟨s.toArray⟩ : ByteArray).toList = s := by rw [Lib.toList_data]
  by_cases h8 : k = 8
  · subst h8
    cases h1 : (s == [116, 114, 117, 101])
    · cases h2 : (s == [102, 97, 108, 115, 101])
      · cases h3 : (s == [110, 117, 108, 108])
        · obtain rfl : x = true := by rw [HX.out, show (s == trueT) = false from h1, show (s == falseT) = false from h2, show (s == nullT) = false from h3]; rfl
          go_enter Tryz.func45, Tryz.ntmps45
          go_wp2_with fail
          go_ret
          exact ⟨rfl, K1.out⟩
        · obtain rfl : x = false := by rw [HX.out, show (s == nullT) = true from h3]; simp
          go_enter Tryz.func45, Tryz.ntmps45
          go_wp2_with fail
          go_ret
          exact ⟨rfl, K1.out⟩
      · obtain rfl : x = false := by rw [HX.out, show (s == falseT) = true from h2]; simp
        go_enter Tryz.func45, Tryz.ntmps45
        go_wp2_with fail
        go_ret
        exact ⟨rfl, K1.out⟩
    · obtain rfl : x = false := by rw [HX.out, show (s == trueT) = true from h1]; simp
      go_enter Tryz.func45, Tryz.ntmps45
      go_wp2_with fail
      go_ret
      exact ⟨rfl, K1.out⟩
  · have e8 : (k != 8) = true := by simpa using h8
    obtain rfl : x = false := by rw [HX.out, show (k == 8) = false by simpa using h8]; rfl
    clear h8
    go_enter Tryz.func45, Tryz.ntmps45
    go_wp2_with fail
    go_ret
    exact ⟨rfl, K1.out⟩

theorem extract_take (s : ByteArray) (n : Nat) : (s.extract 0 n).data.toList = s.data.toList.take n := by
  have := extract_run s 0 n
  rw [Nat.zero_add] at this
  rw [this]; simp

set_option maxRecDepth 100000 in
set_option maxHeartbeats 2000000 in
/-- The object that begins with a token of the text. -/
theorem opObject_any (s : ByteArray) (t : Lx.Tok) (w : World) (hs : s.size ≤ 4294967295) (hm : HasMax w) (ht : t.to ≤ s.size) (X : Int × Ob × Nat) (hX : X = objectV s.data.toList t) :
    Calls Tryz.prog 52 #[.string s, tkV t] w fun e w' => ∃ h, e = .returned (.tuple #[objV X.2.1 h, .int .i64 X.2.2, .int .i64 X.1]) ∧ Kept w w' ∧ Lies (Cel (fun b => w.heap.size ≤ b) w') X.2.1 h := by
  obtain ⟨k, f, st, wh, fr, to⟩ := t
  unfold tkV
  simp only [] at ht ⊢
  have HX := Lib.hid (show X = if k = 1 then parse (s.data.toList.take to) fr else parse s.data.toList fr from hX)
  clear hX
  have K1 := Lib.hid (((Kept.refl w).alloc #[.int .i64 k, .int .i64 f, .string ⟨st.toArray⟩, .bool wh, .int .i64 fr, .int .i64 to] 108).alloc #[.int .i64 0, .int .i64 0, .int .i64 0, .string ⟨#[]⟩, .slice none 0 0, .slice none 0 0] 43)
  have B1 := Lib.hid (Blk.fresh' (b := w.heap.size + 1) (w := w.alloc (.cells #[.int .i64 k, .int .i64 f, .string ⟨st.toArray⟩, .bool wh, .int .i64 fr, .int .i64 to] 108)) #[.int .i64 0, .int .i64 0, .int .i64 0, .string ⟨#[]⟩, .slice none 0 0, .slice none 0 0] 43 (by simp))
  have HM := Lib.hid (fun w' (k : Kept w w') => HasMax.kept hm k)
  clear hm
  have i0 : (0 : Int) ≤ (to : Int) := by omega
  have i1 : (to : Int) ≤ (s.size : Int) := by omega
  by_cases h1 : k = 1
  · subst h1
    have HXV := Lib.hid (show X = parse (s.extract 0 to).data.toList fr by rw [HX.out, if_pos rfl, extract_take])
    have hse : (s.extract 0 to).size ≤ 4294967295 := by rw [ByteArray.size_extract]; omega
    have CP := Lib.hid (fun w' (k : Kept w w') => cosParse_any settled_any (s.extract 0 to) fr w' hse (HM.out _ k) X HXV.out)
    clear hse
    go_enter Tryz.func52, Tryz.ntmps52
    go_wp2_with fail
    (with_reducible refine (CP.out _ K1.out).mono ?_)
    rintro e w2 ⟨h, rfl, hk2, hx2⟩
    have K2 := Lib.hid (K1.out.trans hk2)
    have B2 := Lib.hid (B1.out.kept hk2)
    have X2 := Lib.hid (hx2.weak (P' := fun b => w.heap.size + 2 ≤ b) (fun b hb => by simp at hb; omega))
    clear hk2 hx2
    obtain ⟨u0, u1, u2, u3, u4, u5⟩ := B2.out.cells6
    have uf := B2.out.free
    have uz := B2.out.lt
    have NK := Lib.hid (show ∀ b, w.heap.size + 2 ≤ b → b ≠ w.heap.size + 1 from fun b hb => by omega)
    have NW := Lib.hid (show ∀ b, w.heap.size + 2 ≤ b → w.heap.size ≤ b from fun b hb => by omega)
    obtain ⟨xe, xo, xk⟩ := X
    unfold objV
    simp only []
    go_wp2_with fail
    refine bodyPost_ret (v := .tuple #[.agg #[.int .i64 xo.k, .int .i64 xo.n, .int .i64 xo.f, .string xo.s, .slice h.p xo.l.length h.c, .slice h.q xo.d.length h.e], .int .i64 xk, .int .i64 xe]) ?_ rfl ⟨h, rfl, ?_, ?_⟩
    · simp [results, Tryz.results52, go_sem, u0, u1, u2, u3, u4, u5, uz]
    · repeat (with_reducible first | exact K2.out | refine Kept.set ?_ (by omega) _)
    · refine Lies.weak (P := fun b => w.heap.size + 2 ≤ b) ?_ NW.out
      repeat (with_reducible first | exact X2.out | refine Lies.set ?_ NK.out _)
  · have e1 : (k == 1) = false := by simpa using h1
    have HXV := Lib.hid (show X = parse s.data.toList fr by rw [HX.out, if_neg h1])
    have CP := Lib.hid (fun w' (k : Kept w w') => cosParse_any settled_any s fr w' hs (HM.out _ k) X HXV.out)
    clear h1
    go_enter Tryz.func52, Tryz.ntmps52
    go_wp2_with fail
    (with_reducible refine (CP.out _ K1.out).mono ?_)
    rintro e w2 ⟨h, rfl, hk2, hx2⟩
    have K2 := Lib.hid (K1.out.trans hk2)
    have B2 := Lib.hid (B1.out.kept hk2)
    have X2 := Lib.hid (hx2.weak (P' := fun b => w.heap.size + 2 ≤ b) (fun b hb => by simp at hb; omega))
    clear hk2 hx2
    obtain ⟨u0, u1, u2, u3, u4, u5⟩ := B2.out.cells6
    have uf := B2.out.free
    have uz := B2.out.lt
    have NK := Lib.hid (show ∀ b, w.heap.size + 2 ≤ b → b ≠ w.heap.size + 1 from fun b hb => by omega)
    have NW := Lib.hid (show ∀ b, w.heap.size + 2 ≤ b → w.heap.size ≤ b from fun b hb => by omega)
    obtain ⟨xe, xo, xk⟩ := X
    unfold objV
    simp only []
    go_wp2_with fail
    refine bodyPost_ret (v := .tuple #[.agg #[.int .i64 xo.k, .int .i64 xo.n, .int .i64 xo.f, .string xo.s, .slice h.p xo.l.length h.c, .slice h.q xo.d.length h.e], .int .i64 xk, .int .i64 xe]) ?_ rfl ⟨h, rfl, ?_, ?_⟩
    · simp [results, Tryz.results52, go_sem, u0, u1, u2, u3, u4, u5, uz]
    · repeat (with_reducible first | exact K2.out | refine Kept.set ?_ (by omega) _)
    · refine Lies.weak (P := fun b => w.heap.size + 2 ≤ b) ?_ NW.out
      repeat (with_reducible first | exact X2.out | refine Lies.set ?_ NK.out _)

end Go.Proofs.YtbgdeaeikijdgaaGreatDoor

namespace Go.Proofs.YtbgdeaeikijdgaaGreatDoor
open Go.RowKit Cx
set_option linter.unusedSimpArgs false
set_option linter.unusedVariables false

/-- What the reader of one operator leaves. -/
def OprPost (w : World) (X : Int × Ob × Nat) (e : Ending) (w' : World) : Prop :=
  ∃ p c, e = .returned (.tuple #[.agg #[.string X.2.1.s, .slice p X.2.1.l.length c], .int .i64 X.2.2, .int .i64 X.1]) ∧ Kept w w' ∧ Lies (Cel (fun b => w.heap.size ≤ b) w') X.2.1 ⟨p, c, none, 0⟩
theorem opr_bad {w w' : World} (k : Kept w w') (er : Int) {X : Int × Ob × Nat} (hX : X = (er, nul, 0)) : OprPost w X (.returned (.tuple #[.agg #[.string ⟨#[]⟩, .slice none 0 0], .int .i64 0, .int .i64 er])) w' := by
  subst hX
  exact ⟨none, 0, rfl, k, Lies.flat _ 0 0 0 ⟨#[]⟩ _ (Nat.zero_le _)⟩
theorem operGo_eq (l : List UInt8) (k : Nat) (acc : List Ob) (a : Int) : operGo l k acc a = operStep l acc a (match k with | 0 => (6, nul, 0) | m + 1 => if (objectV l (Lx.nextV l a).2).1 ≠ 0 then ((objectV l (Lx.nextV l a).2).1, nul, 0) else operGo l m (acc ++ [(objectV l (Lx.nextV l a).2).2.1]) (objectV l (Lx.nextV l a).2).2.2) := by
  cases k <;> rw [operGo]

/-- An operator that is made of such a row. -/
theorem OwnK.op {N : Nat} {w : World} {p : Option Addr} {cap : Nat} {acc : ORow} (h : OwnK KO N w (.slice p acc.length cap) acc) (hlen : acc.length ≤ maxLen) (nm : ByteArray) (hn : nm.size ≤ maxLen) :
    Lies (Cel (fun b => N ≤ b) w) (opO nm (acc.map (·.1))) ⟨p, cap, none, 0⟩ := by
  have h0 := h.arr hlen 0 0 0
  unfold opO
  cases h0 with
  | mk k n f s l d h H E hk hl hlc hd hds hdc => exact .mk 0 0 0 nm _ [] _ H E ⟨hk.1, hk.2.1, hn⟩ hl hlc hd hds hdc

set_option maxRecDepth 100000 in
set_option maxHeartbeats 8000000 in
theorem operator_any (s : ByteArray) (a0 : Int) (w : World) (hs : s.size ≤ 4294967295) (hm : HasMax w) (X : Int × Ob × Nat) (hX : X = operGo s.data.toList 64 [] a0) :
    Calls Tryz.prog 34 #[.string s, .int .i64 a0] w (OprPost w X) := by
  have HX := Lib.hid hX.symm
  have HM := Lib.hid (fun w' (k : Kept w w') => HasMax.kept hm k)
  have H1 := Lib.hid (In.fresh' (k := w.heap.size + 1) (In.fresh (In.start w) nul2 53) nul2 53 (by simp))
  have hl0 : s.data.toList.length = s.size := by simp
  clear hX hm
  go_enter Tryz.func34, Tryz.ntmps34
  go_wp2_with fail
  go_loopg [1] 65 (fun m x wr => ∃ (acc : ORow) (a : Int) (p : Option Addr) (cap k : Nat), x = .int .i64 a ∧ m = k + 1 ∧ k + acc.length = 64 ∧ Hid (operGo s.data.toList k (acc.map (·.1)) a = X) ∧ In w [(w.heap.size + 1, #[.string ⟨#[]⟩, .slice p acc.length cap], 53), (w.heap.size, nul2, 53)] wr ∧ Hid (OwnK KO (w.heap.size + 2) wr (.slice p acc.length cap) acc))
  case atStart => exact ⟨[], a0, none, 0, 64, rfl, rfl, rfl, HX, H1.out, Lib.hid (OwnK.nil _ _ _)⟩
  case round =>
    obtain ⟨acc, a, p, cap, k, rfl, hmk, hka, HR, hin, HO⟩ := hrel
    have HI := Lib.hid hin
    obtain ⟨T, hT⟩ : ∃ T, T = Lx.nextV s.data.toList a := ⟨_, rfl⟩
    have HS := Lib.hid (show X = operStep s.data.toList (acc.map (·.1)) a _ from HR.out.symm.trans (operGo_eq _ _ _ _))
    unfold operStep at HS
    rw [← hT] at HS
    have HT := Lib.hid hT
    have TO := Lib.hid (show T.1 = 0 → T.2.to ≤ s.size by
      intro h0
      have := Lx.next_to s.data.toList a
      rw [← hT, hl0] at this; exact this)
    have TL := Lib.hid (show T.2.s.length ≤ 4294967295 by
      have := (Lx.next_len s.data.toList a).2.2
      rw [← hT, hl0] at this; omega)
    have NX := Lib.hid (Next_any s a wr hs (HM.out _ (In.k hin)) T hT)
    obtain ⟨A, hA⟩ : ∃ A, A = acc.length := ⟨_, rfl⟩
    have HAL := Lib.hid hA
    clear hin hT H1 HX hl0
    rw [← hA] at hka HI HO
    clear hA
    go_wp2_with fail
    (with_reducible refine NX.out.mono ?_)
    rintro e w2 ⟨rfl, hk2⟩
    obtain ⟨er, kd, fv, st, wh, fr, tq⟩ := T
    have I2 := Lib.hid (HI.out.kept hk2)
    have O2 := Lib.hid (HO.out.kept hk2)
    clear hk2 HI HO
    simp only [] at HS TO TL ⊢
    have I3 := Lib.hid (In.fresh I2.out #[.int .i64 kd, .int .i64 fv, .string ⟨st.toArray⟩, .bool wh, .int .i64 fr, .int .i64 tq] 108)
    have O3 := Lib.hid (O2.out.kept ((Kept.refl w2).alloc #[.int .i64 kd, .int .i64 fv, .string ⟨st.toArray⟩, .bool wh, .int .i64 fr, .int .i64 tq] 108))
    obtain ⟨p0, p1⟩ := (I2.out.mem List.mem_cons_self).cells2
    have pf := (I2.out.mem List.mem_cons_self).free
    obtain ⟨r0, r1⟩ := (I2.out.mem (List.mem_cons_of_mem _ List.mem_cons_self)).cells2
    have rf := (I2.out.mem (List.mem_cons_of_mem _ List.mem_cons_self)).free
    have pz := (I2.out.mem List.mem_cons_self).lt
    have rz := (I2.out.mem (List.mem_cons_of_mem _ List.mem_cons_self)).lt
    by_cases he : er = 0
    · subst he
      have HS1 := Lib.hid (HS.out.trans (if_neg (by simp)))
      have hst : (⟨st.toArray⟩ : ByteArray).size ≤ maxLen := by
        have := TL.out
        show st.toArray.size ≤ _
        unfold maxLen; simp; omega
      have L3 := Lib.hid (show Lies (Cel (fun b => w.heap.size + 2 ≤ b) (w2.alloc (.cells #[.int .i64 kd, .int .i64 fv, .string ⟨st.toArray⟩, .bool wh, .int .i64 fr, .int .i64 tq] 108))) (opO (str st) (acc.map (·.1))) ⟨p, cap, none, 0⟩ from OwnK.op (by rw [← HAL.out]; exact O3.out) (by rw [← HAL.out]; unfold maxLen; omega) (str st) hst)
      have L2 := Lib.hid (show Lies (Cel (fun b => w.heap.size + 2 ≤ b) w2) (0, opO (str st) (acc.map (·.1)), tq).2.1 ⟨p, cap, none, 0⟩ from OwnK.op (by rw [← HAL.out]; exact O2.out) (by rw [← HAL.out]; unfold maxLen; omega) (str st) hst)
      have NW := Lib.hid (show ∀ b, w.heap.size + 2 ≤ b → w.heap.size ≤ b from fun b hb => by omega)
      have NK0 := Lib.hid (show ∀ b, w.heap.size + 2 ≤ b → b ≠ w.heap.size from fun b hb => by omega)
      have NK1 := Lib.hid (show ∀ b, w.heap.size + 2 ≤ b → b ≠ w.heap.size + 1 from fun b hb => by omega)
      have HNE := Lib.hid (show acc.map (·.1) = [] ↔ A = 0 by rw [HAL.out, List.map_eq_nil_iff]; exact (List.length_eq_zero_iff).symm)
      clear hst
      by_cases h0 : kd = 0
      · subst h0
        by_cases hA0 : A = 0
        · have HXV := Lib.hid (show X = (0, opO (str st) (acc.map (·.1)), tq) by
            rw [HS1.out, if_neg (fun h => h.2 (HNE.out.2 hA0)), if_pos (.inl rfl)])
          subst hA0
          go_wp2_with fail
          go_region_with (fail)
          all_goals
            go_wp2_with fail
            refine bodyPost_ret (v := .tuple #[.agg #[.string ⟨st.toArray⟩, .slice p 0 cap], .int .i64 tq, .int .i64 0]) ?_ rfl ?_
            · simp [results, Tryz.results34, go_sem, r0, r1, rz, p0, p1, pz]
            · refine ⟨p, cap, by rw [HXV.out]; simp only [opO, Ob.s, Ob.l, str, List.length_map, ← HAL.out], ?_, ?_⟩
              · repeat (with_reducible first | exact In.k I3.out | exact In.k I2.out | refine Kept.drew ?_ | refine Kept.drewN ?_ _ | refine Kept.alloc ?_ _ _ | refine Kept.set ?_ (Nat.le_refl _) _ | refine Kept.set ?_ (Nat.le_succ _) _)
              · rw [HXV.out]
                refine Lies.weak (P := fun b => w.heap.size + 2 ≤ b) ?_ NW.out
                repeat (with_reducible first | exact L3.out | exact L2.out | refine Lies.drew ?_ | refine Lies.set ?_ NK0.out _ | refine Lies.set ?_ NK1.out _ | refine Lies.alloc ?_ _)
        · have HXV := Lib.hid (show X = (3, nul, 0) by
            rw [HS1.out, if_pos ⟨rfl, fun h => hA0 (HNE.out.1 h)⟩])
          have hA1 : (0 : Int) < (A : Int) := by omega
          clear hA0
          go_wp2_with fail
          refine bodyPost_ret (v := .tuple #[.agg #[.string ⟨#[]⟩, .slice none 0 0], .int .i64 0, .int .i64 3]) ?_ rfl (opr_bad ?_ 3 HXV.out)
          · simp [results, Tryz.results34, go_sem, r0, r1, rz]
          · repeat (with_reducible first | exact In.k I3.out | exact In.k I2.out | refine Kept.alloc ?_ _ _ | refine Kept.set ?_ (Nat.le_refl _) _)
      have e0 : (kd == 0) = false := by simpa using h0
      obtain ⟨y, hy⟩ : ∃ y, y = isOp ⟨kd, fv, st, wh, fr, tq⟩ := ⟨_, rfl⟩
      have IO := Lib.hid (fun w' => isOperator_any ⟨kd, fv, st, wh, fr, tq⟩ w')
      rw [← hy] at HS1 IO
      unfold tkV at IO
      simp only [] at IO
      have HS2 := Lib.hid (HS1.out.trans (if_neg (fun h => h0 h.1)))
      clear hy HS1
      cases y
      · have HS3 := Lib.hid (HS2.out.trans (if_neg (fun h => by rcases h with h | h; exact h0 h; cases h)))
        clear h0 HS2
        by_cases h64 : A = 64
        · obtain rfl : k = 0 := by omega
          have HXV := Lib.hid (show X = (6, nul, 0) from HS3.out)
          subst h64
          go_wp2_with fail
          (with_reducible refine (IO.out _).mono ?_)
          rintro e w3 ⟨rfl, hk3⟩
          have I4 := Lib.hid (I3.out.kept hk3)
          clear p0 p1 pf r0 r1 rf pz rz hk3
          obtain ⟨b0, b1, b2, b3, b4, b5⟩ := (I4.out.mem List.mem_cons_self).cells6
          obtain ⟨p0, p1⟩ := (I4.out.mem (List.mem_cons_of_mem _ List.mem_cons_self)).cells2
          have pz := (I4.out.mem (List.mem_cons_of_mem _ List.mem_cons_self)).lt
          obtain ⟨r0, r1⟩ := (I4.out.mem (List.mem_cons_of_mem _ (List.mem_cons_of_mem _ List.mem_cons_self))).cells2
          have rf := (I4.out.mem (List.mem_cons_of_mem _ (List.mem_cons_of_mem _ List.mem_cons_self))).free
          have rz := (I4.out.mem (List.mem_cons_of_mem _ (List.mem_cons_of_mem _ List.mem_cons_self))).lt
          go_wp2_with fail
          refine bodyPost_ret (v := .tuple #[.agg #[.string ⟨#[]⟩, .slice none 0 0], .int .i64 0, .int .i64 6]) ?_ rfl (opr_bad ?_ 6 HXV.out)
          · simp [results, Tryz.results34, go_sem, r0, r1, rz]
          · repeat (with_reducible first | exact In.k I4.out | refine Kept.alloc ?_ _ _ | refine Kept.set ?_ (Nat.le_refl _) _)
        · obtain ⟨k, rfl⟩ : ∃ q, k = q + 1 := ⟨k - 1, by omega⟩
          have e64 : ((A : Int) == 64) = false := by rw [beq_eq_false_iff_ne]; omega
          clear h64
          go_wp2_with fail
          (with_reducible refine (IO.out _).mono ?_)
          rintro e w3 ⟨rfl, hk3⟩
          have I4 := Lib.hid (I3.out.kept hk3)
          have O4 := Lib.hid (O3.out.kept hk3)
          clear p0 p1 pf r0 r1 rf pz rz hk3
          obtain ⟨b0, b1, b2, b3, b4, b5⟩ := (I4.out.mem List.mem_cons_self).cells6
          obtain ⟨p0, p1⟩ := (I4.out.mem (List.mem_cons_of_mem _ List.mem_cons_self)).cells2
          have pz := (I4.out.mem (List.mem_cons_of_mem _ List.mem_cons_self)).lt
          have bz := (I4.out.mem List.mem_cons_self).lt
          obtain ⟨r0, r1⟩ := (I4.out.mem (List.mem_cons_of_mem _ (List.mem_cons_of_mem _ List.mem_cons_self))).cells2
          have rf := (I4.out.mem (List.mem_cons_of_mem _ (List.mem_cons_of_mem _ List.mem_cons_self))).free
          have rz := (I4.out.mem (List.mem_cons_of_mem _ (List.mem_cons_of_mem _ List.mem_cons_self))).lt
          obtain ⟨⟨xe, xo, xk⟩, hXO⟩ : ∃ Y, Y = objectV s.data.toList ⟨kd, fv, st, wh, fr, tq⟩ := ⟨_, rfl⟩
          have OB := Lib.hid (fun w' (kk : Kept w w') => opObject_any s ⟨kd, fv, st, wh, fr, tq⟩ w' hs (HM.out _ kk) (TO.out (by trivial)) _ hXO)
          have HS4 := Lib.hid (show X = if xe ≠ 0 then (xe, nul, 0) else operGo s.data.toList k (acc.map (·.1) ++ [xo]) xk by
            rw [HS3.out]
            show (if (objectV s.data.toList ⟨kd, fv, st, wh, fr, tq⟩).1 ≠ 0 then ((objectV s.data.toList ⟨kd, fv, st, wh, fr, tq⟩).1, nul, 0) else operGo s.data.toList k (acc.map (·.1) ++ [(objectV s.data.toList ⟨kd, fv, st, wh, fr, tq⟩).2.1]) (objectV s.data.toList ⟨kd, fv, st, wh, fr, tq⟩).2.2) = _
            rw [← hXO])
          unfold tkV objV at OB
          simp only [] at OB
          clear hXO HS3
          by_cases hx0 : xe = 0
          · subst hx0
            have HS5 := Lib.hid (HS4.out.trans (if_neg (by simp)))
            clear HS4
            go_wp2_with fail
            (with_reducible refine (OB.out _ (In.k I4.out)).mono ?_)
            rintro e w4 ⟨h, rfl, hk4, hx4⟩
            have I5 := Lib.hid (I4.out.tail.kept hk4)
            have O5 := Lib.hid (O4.out.kept hk4)
            have X5 := Lib.hid hx4
            have S5 := Lib.hid hk4.size
            clear hk4 hx4 b0 b1 b2 b3 b4 b5 p0 p1 pz bz r0 r1 rf rz
            obtain ⟨p0, p1⟩ := (I5.out.mem List.mem_cons_self).cells2
            have pf := (I5.out.mem List.mem_cons_self).free
            have pz := (I5.out.mem List.mem_cons_self).lt
            have I7 := Lib.hid ((I5.out.alloc (.cells #[.int .i64 xo.k, .int .i64 xo.n, .int .i64 xo.f, .string xo.s, .slice h.p xo.l.length h.c, .slice h.q xo.d.length h.e] 43)).alloc (.cells #[.int .i64 xo.k, .int .i64 xo.n, .int .i64 xo.f, .string xo.s, .slice h.p xo.l.length h.c, .slice h.q xo.d.length h.e] 43))
            have O7 := Lib.hid (O5.out.kept ((Kept.refl w4).alloc #[.int .i64 xo.k, .int .i64 xo.n, .int .i64 xo.f, .string xo.s, .slice h.p xo.l.length h.c, .slice h.q xo.d.length h.e] 43))
            have X7 := Lib.hid (X5.out.kept ((Kept.refl w4).alloc #[.int .i64 xo.k, .int .i64 xo.n, .int .i64 xo.f, .string xo.s, .slice h.p xo.l.length h.c, .slice h.q xo.d.length h.e] 43))
            have hB : w.heap.size + 2 ≤ (w4.alloc (.cells #[.int .i64 xo.k, .int .i64 xo.n, .int .i64 xo.f, .string xo.s, .slice h.p xo.l.length h.c, .slice h.q xo.d.length h.e] 43)).heap.size := by simp; omega
            have OL := Lib.hid (fun k hk => (O7.out.own.lt k hk).1)
            have MB := Lib.hid (show ∀ b, Value.ownBlock (.slice p A cap) = some b → b < w3.heap.size from fun b hb => (O4.out.own.lt b hb).2)
            have NB := Lib.hid (show w.heap.size + 2 ≤ w3.heap.size by
              have := (I4.out.mem List.mem_cons_self).lt
              have h2 := (In.k I2.out).size
              have h3 := (I2.out.mem List.mem_cons_self).lt
              omega)
            rw [HAL.out] at O7 OL MB
            go_wp2_with (at_builtin; refine wpList_app_obj rfl _ _ rfl (w.heap.size + 2) acc O7.out (by rw [HAL.out]; rfl) (xo, h) _ rfl (w4.heap.size + 1) (by simp) rfl hB (by rw [← HAL.out]; omega) ?_)
            intro g cap' w5 own5 hg5 hl5 hlt5
            have I8 := Lib.hid (I7.out.gbOwn hg5 (fun kk hkk => ⟨by have := OL.out kk hkk; omega, fun x hx => by
              have h1 := OL.out kk hkk
              simp only [List.mem_cons, List.not_mem_nil, or_false] at hx
              rcases hx with rfl | rfl <;> simp only [] <;> omega⟩))
            have O8 := Lib.hid (OwnK.app (x := (xo, h)) O7.out X7.out MB.out NB.out own5 hg5 (by simpa using hl5))
            have hLen : (acc ++ [(xo, h)]).length = A + 1 := by rw [HAL.out]; simp
            rw [← HAL.out]
            rw [← HAL.out] at O8
            have I9 := Lib.hid (I8.out.setAt (Nat.le_succ _) (fun x hx => by simp only [List.mem_cons, List.not_mem_nil, or_false] at hx; rcases hx with rfl; simp) 1 (.slice (some ⟨g, 0, none⟩) (A + 1) cap'))
            have O9 := Lib.hid (O8.out.setOut (k := w.heap.size + 1) (by omega) 1 (.slice (some ⟨g, 0, none⟩) (A + 1) cap'))
            have HLen := Lib.hid hLen
            obtain ⟨q0, q1⟩ := (I8.out.mem List.mem_cons_self).cells2
            have pf5 := (I8.out.mem List.mem_cons_self).free
            have pz5 := (I8.out.mem List.mem_cons_self).lt
            clear own5 hg5 hl5 hlt5 hLen p0 p1 pf pz
            go_wp2_with fail
            go_roundg (k + 1)
            case measure => omega
            case rel =>
              refine ⟨acc ++ [(xo, h)], xk, some ⟨g, 0, none⟩, cap', k, rfl, rfl, by rw [HLen.out]; omega, Lib.hid ?_, by rw [HLen.out]; exact I9.out, Lib.hid (by rw [HLen.out]; exact O9.out)⟩
              rw [List.map_append]; exact HS5.out.symm
          · have HXV := Lib.hid (show X = (xe, nul, 0) from HS4.out.trans (if_pos hx0))
            have hne1 : (xe != 0) = true := by simpa using hx0
            clear hx0 HS4
            go_wp2_with fail
            (with_reducible refine (OB.out _ (In.k I4.out)).mono ?_)
            rintro e w4 ⟨h, rfl, hk4, hx4⟩
            have I5 := Lib.hid (I4.out.kept hk4)
            clear hk4 hx4 b0 b1 b2 b3 b4 b5 p0 p1 pz bz r0 r1 rf rz
            obtain ⟨r0, r1⟩ := (I5.out.mem (List.mem_cons_of_mem _ (List.mem_cons_of_mem _ List.mem_cons_self))).cells2
            have rf := (I5.out.mem (List.mem_cons_of_mem _ (List.mem_cons_of_mem _ List.mem_cons_self))).free
            have rz := (I5.out.mem (List.mem_cons_of_mem _ (List.mem_cons_of_mem _ List.mem_cons_self))).lt
            go_wp2_with fail
            refine bodyPost_ret (v := .tuple #[.agg #[.string ⟨#[]⟩, .slice none 0 0], .int .i64 0, .int .i64 xe]) ?_ rfl (opr_bad ?_ xe HXV.out)
            · simp [results, Tryz.results34, go_sem, r0, r1, rz]
            · repeat (with_reducible first | exact In.k I5.out | refine Kept.alloc ?_ _ _ | refine Kept.set ?_ (Nat.le_refl _) _)
      · have HXV := Lib.hid (show X = (0, opO (str st) (acc.map (·.1)), tq) from HS2.out.trans (if_pos (.inr (by first | rfl | trivial))))
        clear h0 HS2
        go_wp2_with fail
        (with_reducible refine (IO.out _).mono ?_)
        rintro e w3 ⟨rfl, hk3⟩
        have I4 := Lib.hid (I3.out.kept hk3)
        have L4 := Lib.hid (L3.out.kept hk3)
        clear p0 p1 pf r0 r1 rf pz rz hk3
        obtain ⟨b0, b1, b2, b3, b4, b5⟩ := (I4.out.mem List.mem_cons_self).cells6
        obtain ⟨p0, p1⟩ := (I4.out.mem (List.mem_cons_of_mem _ List.mem_cons_self)).cells2
        have pf := (I4.out.mem (List.mem_cons_of_mem _ List.mem_cons_self)).free
        have pz := (I4.out.mem (List.mem_cons_of_mem _ List.mem_cons_self)).lt
        have bz := (I4.out.mem List.mem_cons_self).lt
        obtain ⟨r0, r1⟩ := (I4.out.mem (List.mem_cons_of_mem _ (List.mem_cons_of_mem _ List.mem_cons_self))).cells2
        have rf := (I4.out.mem (List.mem_cons_of_mem _ (List.mem_cons_of_mem _ List.mem_cons_self))).free
        have rz := (I4.out.mem (List.mem_cons_of_mem _ (List.mem_cons_of_mem _ List.mem_cons_self))).lt
        have NE := Lib.hid (show w.heap.size + 1 ≠ w2.heap.size by have := (I2.out.mem List.mem_cons_self).lt; omega)
        have ne1 := NE.out
        have ne2 : w2.heap.size ≠ w.heap.size + 1 := fun h => NE.out h.symm
        have ne3 : w.heap.size ≠ w2.heap.size := by have := NE.out; have := (I2.out.mem List.mem_cons_self).lt; omega
        have ne4 : w2.heap.size ≠ w.heap.size := fun h => ne3 h.symm
        go_wp2_with fail
        go_region_with (fail)
        all_goals
          go_wp2_with fail
          refine bodyPost_ret (v := .tuple #[.agg #[.string ⟨st.toArray⟩, .slice p A cap], .int .i64 tq, .int .i64 0]) ?_ rfl ?_
          · simp [results, Tryz.results34, go_sem, r0, r1, rz, p0, p1, pz]
          · refine ⟨p, cap, by rw [HXV.out]; simp only [opO, Ob.s, Ob.l, str, List.length_map, ← HAL.out], ?_, ?_⟩
            · repeat (with_reducible first | exact In.k I4.out | refine Kept.drew ?_ | refine Kept.drewN ?_ _ | refine Kept.alloc ?_ _ _ | refine Kept.set ?_ (Nat.le_refl _) _ | refine Kept.set ?_ (Nat.le_succ _) _)
            · rw [HXV.out]
              refine Lies.weak (P := fun b => w.heap.size + 2 ≤ b) ?_ NW.out
              repeat (with_reducible first | exact L4.out | refine Lies.drew ?_ | refine Lies.set ?_ NK0.out _ | refine Lies.set ?_ NK1.out _ | refine Lies.alloc ?_ _)
    · have hne : (er != 0) = true := by simpa using he
      have HXV := Lib.hid (show X = (er, nul, 0) from HS.out.trans (if_pos he))
      clear he
      go_wp2_with fail
      refine bodyPost_ret (v := .tuple #[.agg #[.string ⟨#[]⟩, .slice none 0 0], .int .i64 0, .int .i64 er]) ?_ rfl (opr_bad ?_ er HXV.out)
      · simp [results, Tryz.results34, go_sem, r0, r1, rz]
      · repeat (with_reducible first | exact In.k I3.out | exact In.k I2.out | refine Kept.alloc ?_ _ _ | refine Kept.set ?_ (Nat.le_refl _) _)

end Go.Proofs.YtbgdeaeikijdgaaGreatDoor

namespace Go.Proofs.YtbgdeaeikijdgaaGreatDoor
open Go.RowKit Cx
set_option linter.unusedSimpArgs false
set_option linter.unusedVariables false

/-- A scope with one label, walked once. -/
theorem wp_scope_once {P : Program} {a : Act} {w : World} {Q : Exit → Act → World → Prop} {c rest : Code} (l : Nat) (J : Act → World → Prop) (μ : Act → World → Nat) (hf : findLabel c l = some (Code.skip.seq rest))
    (pass : ∀ a w, J a w → rest.wp P (Exit.jump l (fun a' w' => J a' w' ∧ μ a' w' < μ a w) Q) a w)
    (first : (∀ a w, J a w → rest.wp P (Exit.jump l J Q) a w) → c.wp P (Exit.jump l J Q) a w) : (Code.scope c).wp P Q a w := by
  refine wp_scope_jumps l J μ hf (first fun a w h => ?_) (fun a w h => wp_seq (wp_skip (pass a w h)))
  refine Code.wp_mono ?_ (pass a w h)
  intro e a' w' h'
  cases e with
  | goto l' => exact ⟨h'.1, h'.2.1⟩
  | normal => exact h'
  | exit id => exact h'
  | ret => exact h'
  | panic ch => exact h'
  | outgrown => exact h'
def lenOf : Value → Nat | .slice _ n _ => n | _ => 0

/-- What Parse leaves. -/
def OpsPost (w : World) (X : Int × List Ob) (e : Ending) (w' : World) : Prop :=
  ∃ p c rs, e = .returned (.tuple #[.slice p X.2.length c, .int .i64 X.1]) ∧ Kept w w' ∧ rs.map (·.1) = X.2 ∧ OpR (fun b => w.heap.size ≤ b) w' p rs
theorem ops_bad {w w' : World} (k : Kept w w') (er : Int) {X : Int × List Ob} (hX : X = (er, [])) : OpsPost w X (.returned (.tuple #[.slice none 0 0, .int .i64 er])) w' := by
  subst hX
  exact ⟨none, 0, [], rfl, k, rfl, OpR.nil _ _ _⟩
theorem opsGo_eq (l : List UInt8) (k : Nat) (acc : List Ob) (a : Int) : opsGo l k acc a = opsStep l acc a (match k with | 0 => (6, []) | m + 1 => if (operGo l 64 [] a).2.1.s.data.toList = [66, 73] then (3, []) else opsGo l m (acc ++ [(operGo l 64 [] a).2.1]) (operGo l 64 [] a).2.2) := by
  cases k <;> rw [opsGo]

/-- What holds where Parse jumps back. -/
def PAt (s : ByteArray) (X : Int × List Ob) (w : World) (k : Nat) (a' : Act) (w' : World) : Prop :=
  ∃ (acc : ORow) (a : Int) (p : Option Addr) (cap : Nat) (u6 u7 u8 u9 u10 u11 u12 u13 u14 u15 u16 u17 u18 u19 u20 u21 u22 u23 u24 u25 u26 u27 u28 u29 u30 u31 u32 u33 u34 u35 u36 u37 : Value), a' = { tmps := #[.string s, undef, .slice none 0 0, .int .i64 0, .slice p acc.length cap, .int .i64 a, u6, u7, u8, u9, u10, u11, u12, u13, u14, u15, u16, u17, u18, u19, u20, u21, u22, u23, u24, u25, u26, u27, u28, u29, u30, u31, u32, u33, u34, u35, u36, u37], defers := [] } ∧
    k + acc.length = 65536 ∧ Hid (opsGo s.data.toList k (acc.map (·.1)) a = X) ∧ Kept w w' ∧ Hid (OwnK KP w.heap.size w' (.slice p acc.length cap) acc)

set_option maxRecDepth 100000 in
set_option maxHeartbeats 8000000 in
theorem OpsParse_any (s : ByteArray) (w : World) (hs : s.size ≤ 4294967295) (hm : HasMax w) (X : Int × List Ob) (hX : X = opsV s.data.toList) :
    Calls Tryz.prog 27 #[.string s] w (OpsPost w X) := by
  have HX := Lib.hid hX.symm
  have HM := Lib.hid (fun w' (k : Kept w w') => HasMax.kept hm k)
  clear hX hm
  go_enter Tryz.func27, Tryz.ntmps27
  go_wp2_with fail
  refine wp_scope_once 0 (fun a' w' => ∃ k, PAt s X w k a' w') (fun a' _ => 65536 - lenOf (a'.tmps.getD 4 undef)) rfl ?_ ?_
  · rintro a0 wr ⟨k, acc, a, p, cap, u6, u7, u8, u9, u10, u11, u12, u13, u14, u15, u16, u17, u18, u19, u20, u21, u22, u23, u24, u25, u26, u27, u28, u29, u30, u31, u32, u33, u34, u35, u36, u37, rfl, hka, HR, hkk, HO⟩
    have KR := Lib.hid hkk
    obtain ⟨Y, hY⟩ : ∃ Y, Y = operGo s.data.toList 64 [] a := ⟨_, rfl⟩
    have HS := Lib.hid (show X = opsStep s.data.toList (acc.map (·.1)) a _ from HR.out.symm.trans (opsGo_eq _ _ _ _))
    unfold opsStep at HS
    rw [← hY] at HS
    have OP := Lib.hid (operator_any s a wr hs (HM.out _ hkk) Y hY)
    unfold OprPost at OP
    obtain ⟨ye, yo, yk⟩ := Y
    simp only [] at HS OP
    obtain ⟨nm, hnm⟩ : ∃ nm, nm = yo.s := ⟨_, rfl⟩
    obtain ⟨L, hL⟩ : ∃ L, L = yo.l.length := ⟨_, rfl⟩
    rw [← hnm, ← hL] at OP
    rw [← hnm] at HS
    have HNM := Lib.hid hnm
    have HLL := Lib.hid hL
    obtain ⟨A, hA⟩ : ∃ A, A = acc.length := ⟨_, rfl⟩
    rw [← hA] at hka HO ⊢
    have HAL := Lib.hid hA
    clear hkk hY hnm hL hA HR HX
    go_wp2_with fail
    (with_reducible refine OP.out.mono ?_)
    rintro e w2 ⟨py, cy, rfl, hk2, hl2⟩
    have K2 := Lib.hid (KR.out.trans hk2)
    have O2 := Lib.hid (HO.out.kept hk2)
    have S2 := Lib.hid KR.out.size
    have OB2 := Lib.hid (fun b hb => (HO.out.own.lt b hb).2)
    have Y2 := Lib.hid hl2
    have K3 := Lib.hid (K2.out.alloc #[.string nm, .slice py L cy] 53)
    clear hk2 hl2
    by_cases he : ye = 0
    · subst he
      have HS1 := Lib.hid (HS.out.trans (if_neg (by simp)))
      clear HS
      by_cases hn0 : nm.data.toList = []
      · have HXV := Lib.hid (show X = (0, acc.map (·.1)) from HS1.out.trans (if_pos hn0))
        have e1 : (nm.toList == []) = true := by rw [Lib.toList_data, hn0]; rfl
        have O3 := Lib.hid (O2.out.kept ((Kept.refl w2).alloc #[.string nm, .slice py L cy] 53))
        clear hn0
        go_wp2_with fail
        simp only [Exit.jump]
        go_ret2
        refine ⟨p, cap, acc, (show _ = Ending.returned (.tuple #[.slice p A cap, .int .i64 0]) from rfl).trans (by rw [HXV.out, List.length_map, ← HAL.out]), K3.out, by rw [HXV.out], ?_⟩
        have := O3.out
        rw [HAL.out] at this
        exact this.opR
      · have HS2 := Lib.hid (HS1.out.trans (if_neg hn0))
        have e1 : (nm.toList == []) = false := by rw [Lib.toList_data]; simpa using hn0
        clear hn0 HS1
        by_cases h6 : A = 65536
        · obtain rfl : k = 0 := by omega
          have HXV := Lib.hid (show X = (6, []) from HS2.out)
          have e2 : ((A : Int) == 65536) = true := by rw [beq_iff_eq]; omega
          clear h6
          go_wp2_with fail
          simp only [Exit.jump]
          go_ret2
          exact ops_bad K3.out 6 HXV.out
        · obtain ⟨k, rfl⟩ : ∃ q, k = q + 1 := ⟨k - 1, by omega⟩
          have e2 : ((A : Int) == 65536) = false := by rw [beq_eq_false_iff_ne]; omega
          have HA6 := Lib.hid (show A < 65536 by omega)
          have HS3 := Lib.hid (show X = if nm.data.toList = [66, 73] then (3, []) else opsGo s.data.toList k (acc.map (·.1) ++ [yo]) yk from HS2.out)
          clear h6 HS2
          by_cases hbi : nm.data.toList = [66, 73]
          · have HXV := Lib.hid (show X = (3, []) from HS3.out.trans (if_pos hbi))
            have e3 : (nm.toList == [66, 73]) = true := by rw [Lib.toList_data, hbi]; rfl
            clear hbi
            go_wp2_with fail
            simp only [Exit.jump]
            go_ret2
            exact ops_bad K3.out 3 HXV.out
          · have HS4 := Lib.hid (HS3.out.trans (if_neg hbi))
            have e3 : (nm.toList == [66, 73]) = false := by rw [Lib.toList_data]; simpa using hbi
            clear hbi HS3
            have O7 := Lib.hid (O2.out.kept ((Kept.refl w2).alloc #[.string nm, .slice py L cy] 53))
            have Y7 := Lib.hid (Y2.out.kept ((Kept.refl w2).alloc #[.string nm, .slice py L cy] 53))
            have K7 := Lib.hid (K3.out.alloc #[.string nm, .slice py L cy] 53)
            have hB : w.heap.size ≤ (w2.alloc (.cells #[.string nm, .slice py L cy] 53)).heap.size := K3.out.size
            have OL := Lib.hid (fun k hk => (O7.out.own.lt k hk).1)
            have S7 := Lib.hid K7.out.size
            rw [HAL.out] at O7 OL OB2
            go_wp2_with (at_builtin; refine wpList_app_op rfl _ _ rfl w.heap.size acc O7.out (by rw [HAL.out]; rfl) (yo, ⟨py, cy, none, 0⟩) _ (by unfold cells2; rw [HNM.out, HLL.out]) (w2.heap.size + 1) (by simp) rfl hB (by have := HA6.out; have := HAL.out; omega) ?_)
            intro g cap' w5 own5 hg5 hl5 hlt5
            have K8 := Lib.hid (show Kept w w5 from Below.grown K7.out hg5 S7.out (fun kk hkk => OL.out kk hkk))
            have O8 := Lib.hid (OwnK.app (x := (yo, ⟨py, cy, none, 0⟩)) O7.out Y7.out OB2.out S2.out own5 hg5 (by simpa using hl5))
            have hLen : (acc ++ [((yo, ⟨py, cy, none, 0⟩) : Ob × Hd)]).length = A + 1 := by rw [HAL.out]; simp
            rw [← HAL.out]
            rw [← HAL.out] at O8
            have HLen := Lib.hid hLen
            clear own5 hg5 hl5 hlt5 hLen
            go_wp2_with fail
            go_step3
            refine ⟨rfl, ⟨k, acc ++ [(yo, ⟨py, cy, none, 0⟩)], yk, some ⟨g, 0, none⟩, cap', _, _, _, _, _, _, _, _, _, _, _, _, _, _, _, _, _, _, _, _, _, _, _, _, _, _, _, _, _, _, _, _, by rw [HLen.out], by rw [HLen.out]; omega, Lib.hid ?_, K8.out, Lib.hid (by rw [HLen.out]; exact O8.out)⟩, ?_⟩
            · rw [List.map_append]; exact HS4.out.symm
            · have := HA6.out
              simp [lenOf]; omega
    · have HXV := Lib.hid (show X = (ye, []) from HS.out.trans (if_pos he))
      have hne : (ye != 0) = true := by simpa using he
      clear he
      go_wp2_with fail
      simp only [Exit.jump]
      go_ret2
      exact ops_bad K3.out ye HXV.out
  · intro PS
    go_wp2_with fail
    go_step3
    iterate 1 (go_step)
    rename_i hK
    refine hK _ _ (PS _ _ ?_)
    exact ⟨65536, [], 0, none, 0, _, _, _, _, _, _, _, _, _, _, _, _, _, _, _, _, _, _, _, _, _, _, _, _, _, _, _, _, _, _, _, _, rfl, rfl, HX, Kept.refl w, Lib.hid (OwnK.nil _ _ _)⟩

end Go.Proofs.YtbgdeaeikijdgaaGreatDoor
