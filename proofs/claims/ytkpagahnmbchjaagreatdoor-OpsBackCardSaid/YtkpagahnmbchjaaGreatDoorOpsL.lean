/-
  Operators of the document's among a law's arguments.
  The reference of package ops: whether operators are few enough.
  The laws' operators of the document's, and the other way round.
-/
import Derived.Test.YtkpagahnmbchjaaGreatDoorObjArg
import Derived.Test.YtkpagahnmbchjaaGreatDoorOpsP
import Derived.Test.YtkpagahnmbchjaaGreatDoorCosFew
import Derived.Test.YtkpagahnmbchjaaGreatDoorOpsW
import Derived.Test.YtkpagahnmbchjaaGreatDoorUntil
import Derived.Deep.Cut
import Derived.Deep.RegionLaw
import Derived.Test.YtkpagahnmbchjaaGreatDoorOpsV
import Derived.StillTail
namespace Go.Proofs.YtkpagahnmbchjaaGreatDoor
open Go.ChangeShapes Go.WideShapes Go.ChangeAt Go.RowKit Cx
set_option linter.unusedSimpArgs false
set_option linter.unusedVariables false

section
variable {H : Type} {enc : TypeId × Value → H} {W : World} {base : Nat} {sp : Nat → Bool} {held : Bool}

theorem cells_rop : Tryz.prog.cellsOf 27 = 2 := by kernel_rfl
theorem bytes_rop : 0 < Tryz.prog.bytesOf 27 := of_decide_eq_true (by kernel_rfl)

/-- What an operator among the arguments is. -/
def OpW (o : Ob) : Prop := o = opO o.s o.l ∧ ∀ x ∈ o.l, Ob.Words x

set_option maxRecDepth 100000 in
theorem open_op {fuel : Nat} {cs : List Value} {x : DataW H × List MemPlace} (h : DataW.trod enc Tryz.prog W base sp held fuel 27 cs = some x) :
    ∃ r : Ob × Hd, cs = cells2 r ∧ Lies (Cel (fun _ => True) W) r.1 r.2 ∧ OpW r.1 ∧ ∀ M, (∀ u ∈ x.1.weights Tryz.prog 27, u ≤ M) → Ob.Fits M r.1 := by
  obtain ⟨xs, n, rfl, rfl, hlen, hxs, hf⟩ := DataW.trod_struct Tryz.underlying27 h
  rw [cells_rop] at hlen
  match cs, hlen with
  | [c0, c1], _ =>
    match xs, hxs with
    | [y0, y1], _ =>
      have h0 := hf 0 _ rfl
      have h1 := hf 1 _ rfl
      simp only [cells_s, cells_lo, List.drop_zero, List.drop_succ_cons, List.take_succ_cons, List.take_zero, List.getElem?_cons_zero, List.getElem?_cons_succ] at h0 h1
      obtain ⟨s, hs, hs', ws⟩ := DataW.trod_string Tryz.underlying9 h0
      obtain ⟨p, c, l, Hl, hl, hl0, hl1, hl2, hl3, hl4⟩ := open_rowO (fun m hm => (open_objs m).1) h1
      cases hs; cases hl
      refine ⟨(opO s l, ⟨p, c, none, 0⟩), rfl, .mk 0 0 0 s l [] _ Hl (fun _ => Hd.none) ⟨hl0, Nat.zero_le _, ws⟩ hl1 hl2 (fun _ hi => absurd hi (Nat.not_lt_zero _)) (fun _ hi => absurd hi (Nat.not_lt_zero _)) (fun _ hi => absurd hi (Nat.not_lt_zero _)), ⟨rfl, fun x hx => ?_⟩, fun M hM => ?_⟩
      · obtain ⟨i, hi, rfl⟩ := List.mem_iff_getElem.1 (show x ∈ l from hx)
        exact hl3 i hi
      · subst hs'
        rw [DataW.weights, Tryz.underlying27] at hM
        simp only [List.map_cons, List.map_nil, DataW.weightsEach, List.mem_append, DataW.weights] at hM
        have w0 : s.size ≤ M := hM _ (.inl List.mem_cons_self)
        have w1 := hl4 M fun u hu => hM u (.inr (.inl hu))
        exact .mk 0 0 0 s l [] w0 w1.1 (Nat.zero_le _) w1.2 (fun e he => by cases he) (fun e he => by cases he)

/-- Operators that came in. -/
structure OpsArg (W : World) (v : Value) (rs : ORow) (p : Option Addr) (c : Nat) : Prop where
  val : v = .slice p rs.length c
  row : OpR (fun _ => True) W p rs
  ops : ∀ r ∈ rs, OpW r.1
  nil : p = none → c = 0

set_option maxRecDepth 100000 in
theorem open_ops {b0 : Nat} {r : Reach} {v : Value} {d : DataW H} {pl : List MemPlace} (hv : Value.okWide Tryz.prog W r b0 22 v) (h : DataW.Trod enc Tryz.prog W base sp held 22 v d pl) :
    ∃ rs p c, OpsArg W v rs p c ∧ ∀ M, (∀ u ∈ d.weights Tryz.prog 22, u ≤ M) → rs.length ≤ M ∧ ∀ r ∈ rs, Ob.Fits M r.1 := by
  obtain ⟨a1, len, cap, rfl⟩ := okWide_slice Tryz.underlying22 hv
  obtain ⟨fuel, hf⟩ := h
  rcases DataW.trod_slice Tryz.underlying22 hf with ⟨hcs, _⟩ | ⟨a, len', cap', elems, rest, n, rfl, hcs, hx, hb, hlc, hcm, hlen, hel, -, -⟩
  · simp [Value.cells] at hcs
    obtain ⟨rfl, rfl, rfl⟩ := hcs
    exact ⟨[], none, 0, ⟨rfl, OpR.nil _ _ _, fun r hr => (by cases hr), fun _ => rfl⟩, fun M _ => ⟨Nat.zero_le _, fun r hr => by cases hr⟩⟩
  · simp [Value.cells] at hcs
    obtain ⟨rfl, rfl, rfl⟩ := hcs
    haveI : Inhabited (Ob × Hd) := ⟨⟨nul, Hd.none⟩⟩
    have one : ∀ i, i < len → ∃ r : Ob × Hd, (Lies (Cel (fun _ => True) W) r.1 r.2 ∧ OpW r.1) ∧ (∀ j, j < 2 → W.cell? ((a.add (i * 2)).add j) = (cells2 r)[j]?) ∧ ∀ M, (∀ hi : i < elems.length, ∀ u ∈ elems[i].1.weights Tryz.prog 27, u ≤ M) → Ob.Fits M r.1 := fun i hi => by
      have hi' : i < elems.length := by omega
      have key := hel i hi
      rw [cells_rop, List.getElem?_eq_getElem hi'] at key
      obtain ⟨cs', h1, h2⟩ := Option.bind_eq_some_iff.1 key
      obtain ⟨r, rfl, hL, hw, hF⟩ := open_op h2
      exact ⟨r, ⟨hL, hw⟩, (World.cells?_some h1).2.2, fun M hM => hF M (hM hi')⟩
    obtain ⟨F, hF⟩ := Go.Deep.choose_lt (α := Ob × Hd) one
    have hll : ((List.range len).map F).length = len := by simp
    refine ⟨(List.range len).map F, some a, cap, ⟨by rw [hll], ⟨fun i hi => ?_, fun r hr => ?_⟩, fun r hr => ?_, fun e => (by cases e)⟩, fun M hM => ?_⟩
    · have hget : ((List.range len).map F)[i] = F i := by simp
      rw [hll] at hi
      obtain ⟨ab, ao, spot⟩ := a
      have hc := (hF i hi).2.1
      have h0 := (hF 0 (by omega)).2.1 0 (by omega)
      have hspot : spot = none := by simpa [Addr.add] using World.cell?_spot h0
      subst hspot
      rw [hget]
      have q0 := hc 0 (by omega)
      have q1 := hc 1 (by omega)
      rw [Addr.add_lit, Addr.add_lit] at q0 q1
      exact ⟨ab, ao, rfl, trivial, World.block_lt_of_cell? W _ q0, q0, q1⟩
    · obtain ⟨i, hi, rfl⟩ := List.mem_map.1 hr
      exact (hF i (List.mem_range.1 hi)).1.1
    · obtain ⟨i, hi, rfl⟩ := List.mem_map.1 hr
      exact (hF i (List.mem_range.1 hi)).1.2
    · obtain rfl := (Prod.mk.inj hx).1
      rw [DataW.weights, Tryz.underlying22] at hM
      simp only [] at hM
      have h0 := hM _ List.mem_cons_self
      have h1 : ∀ u ∈ DataW.weightsAll Tryz.prog 27 (elems.map (·.1)), u ≤ M := fun u hu => hM u (List.mem_cons_of_mem _ (List.mem_append.2 (.inl hu)))
      have h2 := weights_all h1
      rw [List.length_map] at h0
      refine ⟨by rw [hll, ← hlen]; exact len_le bytes_rop h0, fun y hy => ?_⟩
      obtain ⟨i, hi, rfl⟩ := List.mem_map.1 hy
      have hi' := List.mem_range.1 hi
      exact (hF i hi').2.2 M fun hi'' => h2 _ (List.mem_map.2 ⟨elems[i], List.getElem_mem hi'', rfl⟩)
end

end Go.Proofs.YtkpagahnmbchjaaGreatDoor

namespace Go.Proofs.YtkpagahnmbchjaaGreatDoor
open Go.RowKit Cx
set_option linter.unusedSimpArgs false
set_option linter.unusedVariables false

/-- All of them as one object. -/
def allO (l : List Ob) : Ob := .mk 0 0 0 ⟨#[]⟩ l []

/-- 'append(l, x)' to such a row, at a step of a region that draws its order. -/
theorem step_app_objB {ops : Array Oper} {o : Oper} {a : Act} {K : Act → World → Prop} {Q : Exit → Act → World → Prop} {E : Prop} (hgd : o.guard = none) (s x : Operand)
    (ho : o.op = .call { callee := .builtin .append, args := #[s, x], argTypes := #[25, 25] })
    {W : World} (N : Nat) (v : Value) (rs : ORow) (hs : a.eval s = v) (hown : OwnB W N v rs) (r : Ob × Hd) (g : Nat) (hb : Blk W g (cells6 r.1 r.2).toArray 32)
    (hx : a.eval x = .slice (some ⟨g, 0, none⟩) 1 1) (hB : N ≤ W.heap.size) (hlen : rs.length ≤ 1099511627776)
    (h : ∀ g' cap w', OwnB w' N (.slice (some ⟨g', 0, none⟩) (rs.length + 1) cap) (rs ++ [r]) → W.grownBy w' v.ownBlock → g' < w'.heap.size → K (a.put o.dst (.slice (some ⟨g', 0, none⟩) (rs.length + 1) cap)) w') :
    if Region.wanted o (yielded ops a.tmps) = true then Oper.wp Tryz.prog o a W K Q else E := by
  obtain ⟨i0, hi, hz0, hz1, hz2⟩ := info_parts info_obj
  refine step_append_lies _ hgd s x 25 ho N 32 i0 _ 6 88 Tryz.underlying25 hi hz0 hz1 hz2 rfl (by decide) v rs.length (flatO rs) hs hown ⟨g, 0, none⟩ 1 1 (cells6 r.1 r.2) hx rfl
    ?_ (oneCell6 _ _) (by decide) (by unfold maxLen; omega) (by omega) hB _ rfl ?_
  · intro j u hj
    rw [Addr.add_lit, Nat.zero_add, hb.cell j]
    simpa using hj
  · intro g' cap w' h1 h2 _ h4
    refine h g' cap w' ?_ h2 h4
    unfold OwnB
    rw [List.length_append, show flatO (rs ++ [r]) = flatO rs ++ cells6 r.1 r.2 from flatO_snoc rs r.1 r.2]
    exact h1

/-- An operator's place as an object's. -/
def opHd (r : Ob × Hd) : Ob × Hd := (r.1, ⟨r.2.p, r.2.c, none, 0⟩)
theorem opHd_cells {r : Ob × Hd} (h : r.1 = opO r.1.s r.1.l) : cells6 (opHd r).1 (opHd r).2 = [.int .i64 0, .int .i64 0, .int .i64 0, .string r.1.s, .slice r.2.p r.1.l.length r.2.c, .slice none 0 0] := by
  obtain ⟨⟨k, n, f, s, l, d⟩, ⟨p, c, q, e⟩⟩ := r
  unfold opO at h
  simp only [Ob.s, Ob.l, Ob.mk.injEq] at h
  obtain ⟨rfl, rfl, rfl, -, -, rfl⟩ := h
  rfl
theorem opHd_lies {P : Nat → Prop} {w : World} {r : Ob × Hd} (h : r.1 = opO r.1.s r.1.l) (hl : Lies (Cel P w) r.1 r.2) : Lies (Cel P w) (opHd r).1 (opHd r).2 := by
  obtain ⟨⟨k, n, f, s, l, d⟩, ⟨p, c, q, e⟩⟩ := r
  unfold opO at h
  simp only [Ob.s, Ob.l, Ob.mk.injEq] at h
  obtain ⟨rfl, rfl, rfl, -, -, rfl⟩ := h
  cases hl with
  | mk k n f s l d h H E hk hl hlc hd hds hdc => exact .mk 0 0 0 s l [] _ H E ⟨hk.1, hk.2.1, hk.2.2⟩ hl hlc (fun _ hi => absurd hi (Nat.not_lt_zero _)) (fun _ hi => absurd hi (Nat.not_lt_zero _)) (fun _ hi => absurd hi (Nat.not_lt_zero _))

/-- What Few leaves. -/
def FewPost (rs : ORow) (most : Int) (w : World) (e : Ending) (w' : World) : Prop := ∃ b, e = .returned (.bool b) ∧ Kept w w' ∧ (b = true → (rs.length : Int) ≤ most ∧ 0 ≤ few (allO (rs.map (·.1))) most 0)

set_option maxRecDepth 100000 in
set_option maxHeartbeats 16000000 in
theorem FewP_any (rs : ORow) (p : Option Addr) (c : Nat) (v : Value) (most : Int) (w : World) (h : OpsArg w v rs p c) (hf : rs.length ≤ 140737488355328 ∧ ∀ r ∈ rs, Ob.Fits 140737488355328 r.1) (h1 : 0 ≤ most) (h2 : most ≤ 1000000) :
    Calls Tryz.prog 8 #[v, .int .i64 most] w (FewPost rs most w) := by
  obtain ⟨rfl, hrow, hop, -⟩ := h
  have HNK := Lib.hid hrow
  have HOP := Lib.hid (fun r hr => (hop r hr).1)
  have FA := Lib.hid (fun (q : Option Addr) (cq : Nat) w' (hl : Lies (Cel (fun _ => True) w') (allO (rs.map (·.1))) ⟨q, cq, none, 0⟩) => Few_any _ (allO (rs.map (·.1))) ⟨q, cq, none, 0⟩ most w' hl (.mk _ _ _ _ _ _ (by decide) (by rw [List.length_map]; exact hf.1) (by decide) (fun y hy => by obtain ⟨r, hr, rfl⟩ := List.mem_map.1 hy; exact hf.2 r hr) (fun e he => by cases he) (fun e he => by cases he)) h1 (by omega))
  obtain ⟨L, hL⟩ : ∃ L, L = rs.length := ⟨_, rfl⟩
  have HRL := Lib.hid hL
  rw [← hL]
  by_cases hlm : most < (L : Int)
  · clear hrow hop hf hL
    go_enter Tryz.func8, Tryz.ntmps8
    go_wp2_with fail
    go_ret
    exact ⟨false, rfl, Kept.refl _, fun h => by cases h⟩
  have hlm' : ¬ most < (L : Int) := hlm
  have hL6 : L ≤ 1000000 := by omega
  have H1 := Lib.hid (In.fresh (In.start w) #[.int .i64 0, .int .i64 0, .int .i64 0, .string ⟨#[]⟩, .slice none 0 0, .slice none 0 0] 32)
  clear hrow hop hf hL hlm
  go_enter Tryz.func8, Tryz.ntmps8
  go_wp2_with fail
  go_loopg [6] L (fun m i wr => ∃ (j : Nat) (q : Option Addr) (cq : Nat), m = L - j ∧ j ≤ L ∧ i = .int .i64 j ∧ In w [(w.heap.size, #[.int .i64 0, .int .i64 0, .int .i64 0, .string ⟨#[]⟩, .slice q j cq, .slice none 0 0], 32)] wr ∧ Hid (OwnB wr (w.heap.size + 1) (.slice q j cq) ((rs.take j).map opHd)))
  case atStart => exact ⟨0, none, 0, by omega, Nat.zero_le _, rfl, H1.out, Lib.hid (OwnB.nil _ _)⟩
  case round =>
    obtain ⟨j, q, cq, hm, hj, rfl, hin, HO⟩ := hrel
    have HI := Lib.hid hin
    have KI := Lib.hid (In.k hin)
    have OM := Lib.hid (hin.mem List.mem_cons_self)
    clear hin H1
    obtain ⟨o0, o1, o2, o3, o4, o5⟩ := OM.out.cells6
    have of_ := OM.out.free
    have oz := OM.out.lt
    by_cases hlt : j < L
    · have j1 : (j : Int) < (L : Int) := by omega
      have j0 : (0 : Int) ≤ (j : Int) := by omega
      have hjr : j < rs.length := by have := HRL.out; omega
      obtain ⟨kb, off, hpp, -, hkw, k0, k1⟩ := HNK.out.at' j hjr
      subst hpp
      have hkb : kb < wr.heap.size := Nat.lt_of_lt_of_le hkw KI.out.size
      have c0 := (KI.out.cells.1 kb _ hkw).trans k0
      have c1 := (KI.out.cells.1 kb _ hkw).trans k1
      have htk : (rs.take (j + 1)).map opHd = (rs.take j).map opHd ++ [opHd (rs[j]'hjr)] := by rw [List.take_succ_eq_append_getElem hjr, List.map_append]; rfl
      have hll : ((rs.take j).map opHd).length = j := by rw [List.length_map, List.length_take]; omega
      obtain ⟨TK, hTK⟩ : ∃ TK, TK = (rs.take j).map opHd := ⟨_, rfl⟩
      rw [← hTK] at HO htk hll
      have hcel := opHd_cells (HOP.out _ (List.getElem_mem hjr))
      obtain ⟨R, hR⟩ : ∃ R, R = opHd (rs[j]'hjr) := ⟨_, rfl⟩
      rw [← hR] at htk hcel
      obtain ⟨nm, hnm⟩ : ∃ nm, nm = (rs[j]'hjr).1.s := ⟨_, rfl⟩
      obtain ⟨N, hN⟩ : ∃ N, N = (rs[j]'hjr).1.l.length := ⟨_, rfl⟩
      obtain ⟨hp, hhp⟩ : ∃ hp, hp = (rs[j]'hjr).2.p := ⟨_, rfl⟩
      obtain ⟨hc, hhc⟩ : ∃ hc, hc = (rs[j]'hjr).2.c := ⟨_, rfl⟩
      rw [← hnm] at c0 hcel
      rw [← hN, ← hhp, ← hhc] at c1 hcel
      have HTK := Lib.hid htk
      have HLL := Lib.hid hll
      have HCEL := Lib.hid hcel
      clear htk hll k0 k1 hnm hN hhp hhc hR hTK hcel
      have SK := Lib.hid (show ∀ W, Kept wr W → (fun w' => w'.cell? ⟨w.heap.size, 4, none⟩ = some (.slice q j cq) ∧ w'.cell? ⟨kb, off + j * 2, none⟩ = some (.string nm) ∧ w'.cell? ⟨kb, off + j * 2 + 1, none⟩ = some (.slice hp N hc)) W from fun W k => ⟨(k.cells.1 _ _ oz).trans o4, (k.cells.1 _ _ hkb).trans c0, (k.cells.1 _ _ hkb).trans c1⟩)
      have KA := Lib.hid (show Kept wr ((wr.drew).alloc (.cells #[.int .i64 0, .int .i64 0, .int .i64 0, .string nm, .slice hp N hc, .slice none 0 0] 32)) from ((Kept.refl wr).drew).allocO _)
      have OA := Lib.hid (show OwnB ((wr.drew).alloc (.cells #[.int .i64 0, .int .i64 0, .int .i64 0, .string nm, .slice hp N hc, .slice none 0 0] 32)) (w.heap.size + 1) (.slice q j cq) TK from HO.out.kept KA.out)
      have BA := Lib.hid (show Blk ((wr.drew).alloc (.cells #[.int .i64 0, .int .i64 0, .int .i64 0, .string nm, .slice hp N hc, .slice none 0 0] 32)) wr.heap.size (cells6 R.1 R.2).toArray 32 by rw [HCEL.out]; exact Blk.fresh wr.drew _ _)
      have hsA : w.heap.size + 1 ≤ ((wr.drew).alloc (.cells #[.int .i64 0, .int .i64 0, .int .i64 0, .string nm, .slice hp N hc, .slice none 0 0] 32)).heap.size := by have := KA.out.size; omega
      have hlb : TK.length ≤ 1099511627776 := by rw [HLL.out]; omega
      have OL := Lib.hid (HO.out.lt)
      have GS := Lib.hid (show ∀ w5, ((wr.drew).alloc (.cells #[.int .i64 0, .int .i64 0, .int .i64 0, .string nm, .slice hp N hc, .slice none 0 0] 32)).grownBy w5 (Value.ownBlock (.slice q j cq)) → ∀ b, b < w.heap.size + 1 → w5.heap[b]? = wr.heap[b]? from fun w5 g b hb =>
        (g.block b (by omega) (fun e => by have := (OL.out b e.symm).1; omega)).trans (KA.out.block b (by omega)))
      clear o0 o1 o2 o3 o4 o5 c0 c1
      go_upto_region 7 with fail
      refine wp_region_until (S := (fun w' => w'.cell? ⟨w.heap.size, 4, none⟩ = some (.slice q j cq) ∧ w'.cell? ⟨kb, off + j * 2, none⟩ = some (.string nm) ∧ w'.cell? ⟨kb, off + j * 2 + 1, none⟩ = some (.slice hp N hc))) 16 (by kernel_rfl) ?_ (fun hHeld => ?_)
      · exact SK.out _ (Kept.refl wr).drew
      refine wpAnyU_take (i := 0) (oi := ⟨some 18, _, _, _, _, _⟩) (v := ?_) [1, 14, 16] rfl (by kernel_rfl) (by kernel_rfl) (by kernel_rfl) (by kernel_rfl) (fun _ _ _ h => h) (Or.inl ⟨by rfl, ?_⟩) (by assumption) ?_
      rotate_left 1
      · (intro w hSw; (try dsimp only at hSw); go_simp <;> with_reducible rfl)
      try simp only [Act.put, List.setIfInBounds_toArray, List.set_cons_zero, List.set_cons_succ]
      refine wpAnyU_take (i := 1) (oi := ⟨some 19, _, _, _, _, _⟩) (v := ?_) [14, 16] rfl (by kernel_rfl) (by kernel_rfl) (by kernel_rfl) (by kernel_rfl) (fun _ _ _ h => h) (Or.inl ⟨by rfl, ?_⟩) (by assumption) ?_
      rotate_left 1
      · (intro w hSw; (try dsimp only at hSw); go_simp <;> with_reducible rfl)
      try simp only [Act.put, List.setIfInBounds_toArray, List.set_cons_zero, List.set_cons_succ]
      refine wpAnyU_take (i := 2) (oi := ⟨some 20, _, _, _, _, _⟩) (v := ?_) [4, 5, 6, 12, 13, 14, 16] rfl (by kernel_rfl) (by kernel_rfl) (by kernel_rfl) (by kernel_rfl) (fun _ _ _ h => h) (Or.inl ⟨by rfl, ?_⟩) (by assumption) ?_
      rotate_left 1
      · (intro w hSw; (try dsimp only at hSw); go_simp <;> with_reducible rfl)
      try simp only [Act.put, List.setIfInBounds_toArray, List.set_cons_zero, List.set_cons_succ]
      refine wpAnyU_take (i := 3) (oi := ⟨some 21, _, _, _, _, _⟩) (v := ?_) [4, 5, 6, 12, 13, 14, 16] rfl (by kernel_rfl) (by kernel_rfl) (by kernel_rfl) (by kernel_rfl) (fun _ _ _ h => h) (Or.inl ⟨by rfl, ?_⟩) (by assumption) ?_
      rotate_left 1
      · (intro w hSw; (try dsimp only at hSw); go_simp <;> with_reducible rfl)
      try simp only [Act.put, List.setIfInBounds_toArray, List.set_cons_zero, List.set_cons_succ]
      refine wpAnyU_take (i := 4) (oi := ⟨some 22, _, _, _, _, _⟩) (v := ?_) [5, 6, 12, 13, 14, 16] rfl (by kernel_rfl) (by kernel_rfl) (by kernel_rfl) (by kernel_rfl) (fun _ _ _ h => h) (Or.inl ⟨by rfl, ?_⟩) (by assumption) ?_
      rotate_left 1
      · (intro w hSw; (try dsimp only at hSw); go_simp <;> with_reducible rfl)
      try simp only [Act.put, List.setIfInBounds_toArray, List.set_cons_zero, List.set_cons_succ]
      refine wpAnyU_take (i := 5) (oi := ⟨some 23, _, _, _, _, _⟩) (v := ?_) [6, 12, 13, 14, 16] rfl (by kernel_rfl) (by kernel_rfl) (by kernel_rfl) (by kernel_rfl) (fun _ _ _ h => h) (Or.inl ⟨by rfl, ?_⟩) (by assumption) ?_
      rotate_left 1
      · (intro w hSw; (try dsimp only at hSw); go_simp <;> with_reducible rfl)
      try simp only [Act.put, List.setIfInBounds_toArray, List.set_cons_zero, List.set_cons_succ]
      refine wpAnyU_take (i := 6) (oi := ⟨some 24, _, _, _, _, _⟩) (v := ?_) [12, 13, 14, 16] rfl (by kernel_rfl) (by kernel_rfl) (by kernel_rfl) (by kernel_rfl) (fun _ _ _ h => h) (Or.inl ⟨by rfl, ?_⟩) (by assumption) ?_
      rotate_left 1
      · (intro w hSw; (try dsimp only at hSw); go_simp <;> with_reducible rfl)
      try simp only [Act.put, List.setIfInBounds_toArray, List.set_cons_zero, List.set_cons_succ]
      refine wpAnyU_take (i := 7) (oi := ⟨some 25, _, _, _, _, _⟩) (v := ?_) [9, 10, 11, 12, 13, 14, 16] rfl (by kernel_rfl) (by kernel_rfl) (by kernel_rfl) (by kernel_rfl) (fun _ _ _ h => h) (Or.inl ⟨by rfl, ?_⟩) (by assumption) ?_
      rotate_left 1
      · (intro w hSw; (try dsimp only at hSw); go_simp <;> with_reducible rfl)
      try simp only [Act.put, List.setIfInBounds_toArray, List.set_cons_zero, List.set_cons_succ]
      refine wpAnyU_take (i := 8) (oi := ⟨some 26, _, _, _, _, _⟩) (v := ?_) [9, 10, 11, 12, 13, 14, 16] rfl (by kernel_rfl) (by kernel_rfl) (by kernel_rfl) (by kernel_rfl) (fun _ _ _ h => h) (Or.inl ⟨by rfl, ?_⟩) (by assumption) ?_
      rotate_left 1
      · (intro w hSw; (try dsimp only at hSw); go_simp <;> with_reducible rfl)
      try simp only [Act.put, List.setIfInBounds_toArray, List.set_cons_zero, List.set_cons_succ]
      refine wpAnyU_take (i := 9) (oi := ⟨some 27, _, _, _, _, _⟩) (v := ?_) [10, 11, 12, 13, 14, 16] rfl (by kernel_rfl) (by kernel_rfl) (by kernel_rfl) (by kernel_rfl) (fun _ _ _ h => h) (Or.inl ⟨by rfl, ?_⟩) (by assumption) ?_
      rotate_left 1
      · (intro w hSw; (try dsimp only at hSw); go_simp <;> with_reducible rfl)
      try simp only [Act.put, List.setIfInBounds_toArray, List.set_cons_zero, List.set_cons_succ]
      refine wpAnyU_take (i := 10) (oi := ⟨some 28, _, _, _, _, _⟩) (v := ?_) [11, 12, 13, 14, 16] rfl (by kernel_rfl) (by kernel_rfl) (by kernel_rfl) (by kernel_rfl) (fun _ _ _ h => h) (Or.inl ⟨by rfl, ?_⟩) (by assumption) ?_
      rotate_left 1
      · (intro w hSw; (try dsimp only at hSw); go_simp <;> with_reducible rfl)
      try simp only [Act.put, List.setIfInBounds_toArray, List.set_cons_zero, List.set_cons_succ]
      refine wpAnyU_take (i := 11) (oi := ⟨some 29, _, _, _, _, _⟩) (v := ?_) [12, 13, 14, 16] rfl (by kernel_rfl) (by kernel_rfl) (by kernel_rfl) (by kernel_rfl) (fun _ _ _ h => h) (Or.inl ⟨by rfl, ?_⟩) (by assumption) ?_
      rotate_left 1
      · (intro w hSw; (try dsimp only at hSw); go_simp <;> with_reducible rfl)
      try simp only [Act.put, List.setIfInBounds_toArray, List.set_cons_zero, List.set_cons_succ]
      refine wpAnyU_take (i := 12) (oi := ⟨some 30, _, _, _, _, _⟩) (v := ?_) [13, 14, 16] rfl (by kernel_rfl) (by kernel_rfl) (by kernel_rfl) (by kernel_rfl) (fun _ _ _ h => h) (Or.inl ⟨by rfl, ?_⟩) (by assumption) ?_
      rotate_left 1
      · (intro w hSw; (try dsimp only at hSw); go_simp <;> with_reducible rfl)
      try simp only [Act.put, List.setIfInBounds_toArray, List.set_cons_zero, List.set_cons_succ]
      refine wpAnyU_ready (rs := [13]) (by kernel_rfl) (by simp) ?_
      refine AllReadyU.cons (o := ⟨some 31, _, _, _, _, _⟩) rfl (fun K hK => ?_) AllReadyU.nil
      go_simp
      refine hK.out _ _ ?_ (fun hHeld => ?_)
      · exact SK.out _ KA.out
      clear hK K
      try simp only [Act.put, List.setIfInBounds_toArray, List.set_cons_zero, List.set_cons_succ]
      refine wpAnyU_ready (rs := [14]) (by kernel_rfl) (by simp) ?_
      refine AllReadyU.cons (o := ⟨some 32, _, _, _, _, _⟩) rfl (fun K hK => ?_) AllReadyU.nil
      refine step_app_objB (by rfl) _ _ (by rfl) (w.heap.size + 1) (.slice q j cq) TK (by rfl) OA.out R wr.heap.size BA.out (by rfl) hsA hlb ?_
      intro g5 cap5 w5 hown5 hg5 hlt5
      have GG := Lib.hid (GS.out w5 hg5)
      have O5 := Lib.hid hown5
      have K5 := Lib.hid (show Kept w w5 from Below.grown (KI.out.trans KA.out) hg5 (by omega) (fun y hy => by have := (OL.out y hy).1; omega))
      have B5 := Lib.hid (show In w [(w.heap.size, #[.int .i64 0, .int .i64 0, .int .i64 0, .string ⟨#[]⟩, .slice q j cq, .slice none 0 0], 32)] w5 from ⟨K5.out, fun x hx => by
        have hB := HI.out.2 x hx
        obtain rfl := List.mem_singleton.1 hx
        exact (GG.out w.heap.size (by omega)).trans hB⟩)
      obtain ⟨p0, p1, p2, p3, p4, p5⟩ := (B5.out.mem List.mem_cons_self).cells6
      have pf := (B5.out.mem List.mem_cons_self).free
      have pz := (B5.out.mem List.mem_cons_self).lt
      refine hK.out _ _ ?_ (fun hHeld => ?_)
      · have hgc : ∀ b o', b < w.heap.size + 1 → w5.cell? ⟨b, o', none⟩ = wr.cell? ⟨b, o', none⟩ := fun b o' hb => World.cell?_of_block (GG.out b hb)
        have S0 := SK.out wr (Kept.refl wr)
        simp only [] at S0
        obtain ⟨s0, s1, s2⟩ := S0
        exact ⟨(hgc _ _ (by omega)).trans s0, (hgc _ _ (by omega)).trans s1, (hgc _ _ (by omega)).trans s2⟩
      clear hK K hown5 hg5
      try simp only [Act.put, List.setIfInBounds_toArray, List.set_cons_zero, List.set_cons_succ]
      refine wpAnyU_take (i := 15) (oi := ⟨some 33, _, _, _, _, _⟩) (v := ?_) [16] rfl (by kernel_rfl) (by kernel_rfl) (by kernel_rfl) (by kernel_rfl) (fun _ _ _ h => h) (Or.inl ⟨by rfl, ?_⟩) (by assumption) ?_
      rotate_left 1
      · (intro w hSw; (try dsimp only at hSw); go_simp <;> with_reducible rfl)
      try simp only [Act.put, List.setIfInBounds_toArray, List.set_cons_zero, List.set_cons_succ]
      refine wpAnyU_ready (rs := [16]) (by kernel_rfl) (by simp) ?_
      refine AllReadyU.last (o := ⟨none, _, _, _, _, _⟩) rfl (fun K hK => ?_) AllReadyU.nil
      go_simp
      refine hK.out _ _ ?_
      clear hK K hHeld
      try simp only [Act.put, List.setIfInBounds_toArray, List.set_cons_zero, List.set_cons_succ]
      refine wpAnyU_done (by kernel_rfl) ?_ _
      rw [HLL.out] at O5
      rw [← HTK.out] at O5
      try simp only [HLL.out]
      go_wp2_with fail
      go_roundg (L - (j + 1))
      case measure => omega
      case rel =>
        refine ⟨j + 1, some ⟨g5, 0, none⟩, cap5, rfl, by omega, by go_num, ?_, Lib.hid ?_⟩
        · have hb5 := (B5.out.mem List.mem_cons_self).set 4 (.slice (some ⟨g5, 0, none⟩) (j + 1) cap5)
          exact In.cons (In.other (In.tail B5.out) (by omega) (fun x hx => by cases hx) _) (by simpa using hb5)
        · exact OwnB.gb O5.out (r := some w.heap.size) (gb_own (gb_refl _ _) _ _) (.inr (fun e => by have := (O5.out.lt _ e).1; omega))
    · obtain rfl : j = L := by omega
      have CA := Lib.hid (FA.out q cq wr (by
        have o2 := HO.out
        rw [List.take_of_length_le (by have := HRL.out; omega)] at o2
        have hlen : (rs.map opHd).length = j := by rw [List.length_map, ← HRL.out]
        rw [← hlen] at o2
        have ha := o2.arr (by rw [hlen]; unfold maxLen; omega) (fun r hr => by
          obtain ⟨r0, hr0, rfl⟩ := List.mem_map.1 hr
          exact (opHd_lies (HOP.out r0 hr0) (HNK.out.lies r0 hr0)).kept KI.out)
        have e : (rs.map opHd).map (·.1) = rs.map (·.1) := by rw [List.map_map]; rfl
        rw [e] at ha
        cases ha with
        | mk k n f s l d h H E hk hl hlc hd hds hdc => exact .mk 0 0 0 ⟨#[]⟩ _ [] _ H E hk hl hlc hd hds hdc))
      obtain ⟨y, hy⟩ : ∃ y, y = decide (0 ≤ few (allO (rs.map (·.1))) most 0) := ⟨_, rfl⟩
      rw [← hy] at CA
      have HY := Lib.hid hy
      unfold objV allO at CA
      simp only [Ob.k, Ob.n, Ob.f, Ob.s, Ob.l, Ob.d, List.length_map, List.length_nil] at CA
      rw [← HRL.out] at CA
      clear hy
      go_wp2_with fail
      (with_reducible refine CA.out.mono ?_)
      rintro e w9 ⟨rfl, hk9⟩
      have K9 := Lib.hid (KI.out.trans hk9)
      clear hk9
      go_wp2_with fail
      go_ret
      exact ⟨_, rfl, K9.out, fun hyt => ⟨by rw [← HRL.out]; omega, of_decide_eq_true (HY.out.symm.trans hyt)⟩⟩

end Go.Proofs.YtkpagahnmbchjaaGreatDoor

namespace Go.Proofs.YtkpagahnmbchjaaGreatDoor
open Go.RowKit Cx
set_option linter.unusedSimpArgs false
set_option linter.unusedVariables false

theorem info_rop : (Tryz.prog.info? 27).map (fun i => (i.zero, i.size, i.bytes)) = some (some (.agg #[.string ⟨#[]⟩, .slice none 0 0]), 2, 40) := by kernel_rfl

def OursPost (rs : ORow) (w : World) (e : Ending) (w' : World) : Prop :=
  ∃ p c, e = .returned (.slice p rs.length c) ∧ Kept w w' ∧ OpR (fun _ => True) w' p rs ∧ (p = none → c = 0) ∧ ∀ ad, p = some ad → ad = ⟨ad.block, ad.off, none⟩

set_option maxRecDepth 100000 in
set_option maxHeartbeats 4000000 in
theorem opsOurs_any (rs : ORow) (p : Option Addr) (c : Nat) (w : World) (h : OpR (fun _ => True) w p rs) (hB : rs.length ≤ 1099511627776) :
    Calls Tryz.prog 11 #[.slice p rs.length c] w (OursPost rs w) := by
  have HT := Lib.hid h
  obtain ⟨L, hL⟩ : ∃ L, L = rs.length := ⟨_, rfl⟩
  have HL := Lib.hid hL
  rw [← hL] at hB ⊢
  clear h hL
  go_enter Tryz.func11, Tryz.ntmps11
  go_wp2_with fail
  go_loopg [3, 4] L (fun m x y wr => ∃ (j : Nat) (vv : Value), vv = x ∧ m = L - j ∧ j ≤ L ∧ y = .int .i64 j ∧ Hid (OwnQ 45 wr w.heap.size vv (rs.take j)) ∧ Kept w wr)
  case atStart => exact ⟨0, _, rfl, rfl, Nat.zero_le _, rfl, Lib.hid (OwnQ.nil _ _ _), Kept.refl w⟩
  case round =>
    obtain ⟨j, vv, rfl, hm, hj, rfl, HO, hk⟩ := hrel
    have HK := Lib.hid hk
    have hsr := Below.size hk
    clear hk
    by_cases hlt : j < L
    · have j1 : (j : Int) < (L : Int) := by omega
      have hjr : j < rs.length := by have := HL.out; omega
      obtain ⟨kb, o, hp, -, hkb0, k0, k1⟩ := HT.out.at' j hjr
      subst hp
      have hkb : kb < wr.heap.size := Nat.lt_of_lt_of_le hkb0 hsr
      have c0 := (HK.out.cells.1 kb _ hkb0).trans k0
      have c1 := (HK.out.cells.1 kb _ hkb0).trans k1
      have htk : rs.take (j + 1) = rs.take j ++ [rs[j]] := List.take_succ_eq_append_getElem hjr
      obtain ⟨r, hr⟩ : ∃ r, r = rs[j] := ⟨_, rfl⟩
      rw [← hr] at c0 c1 htk
      have HTK := Lib.hid htk
      have hll : (rs.take j).length = j := by rw [List.length_take]; omega
      have HLL := Lib.hid hll
      have hlb : (rs.take j).length ≤ 1099511627776 := by omega
      obtain ⟨TK, hTK⟩ : ∃ TK, TK = rs.take j := ⟨_, rfl⟩
      rw [← hTK] at hlb HO HTK HLL
      clear hTK
      obtain ⟨⟨xk, xn, xf, nm, xl, xd⟩, ⟨hp, hc, hq, he⟩⟩ := r
      simp only [Ob.s, Ob.l] at c0 c1
      obtain ⟨N, hN⟩ : ∃ N, N = xl.length := ⟨_, rfl⟩
      rw [← hN] at c1
      have HN := Lib.hid hN
      clear hr htk hll k0 k1 hN
      go_upto_region 5 with fail
      have KA := Lib.hid (show Kept wr ((wr.alloc (.cells #[.string nm, .slice hp N hc] 45)).drew) from ((Kept.refl wr).allocO _).drew)
      have OA := Lib.hid (HO.out.kept KA.out)
      have BA := Lib.hid (show Blk ((wr.alloc (.cells #[.string nm, .slice hp N hc] 45)).drew) wr.heap.size (cells2 (.mk xk xn xf nm xl xd, ⟨hp, hc, hq, he⟩)).toArray 45 by
        have := (Blk.fresh wr #[.string nm, .slice hp N hc] 45).drew
        rw [HN.out] at this ⊢
        exact this)
      have hsA := Nat.le_trans hsr (Below.size KA.out)
      have CC := Lib.hid (fun w5 (g : ((wr.alloc (.cells #[.string nm, .slice hp N hc] 45)).drew).grownBy w5 vv.ownBlock) => (show w5.heap[kb]? = wr.heap[kb]? from
        (g.block kb (by have := Below.size KA.out; omega) (fun e => by have := (HO.out.lt kb e.symm).1; omega)).trans (KA.out.block kb (by omega))))
      have C0 := Lib.hid c0
      have C1 := Lib.hid c1
      go_region_held3 (fun w' => w'.cell? ⟨kb, o + j * 2, none⟩ = some (.string nm) ∧ w'.cell? ⟨kb, o + j * 2 + 1, none⟩ = some (.slice hp N hc)) (first | go_keep | exact ⟨d0, d1⟩ | exact ⟨C0.out, C1.out⟩ | simp [d0, d1]) ((refine step_app_P 45 36 Tryz.underlying36 info_op (by rfl) _ _ (by rfl) w.heap.size vv TK (by rfl) OA.out (.mk xk xn xf nm xl xd, ⟨hp, hc, hq, he⟩) wr.heap.size BA.out (by rfl) hsA hlb ?_; intro g' cap' w5 hown5 hgrow5 hlt5; have d0 : w5.cell? ⟨kb, o + j * 2, none⟩ = some (.string nm) := (World.cell?_of_block (CC.out w5 hgrow5)).trans C0.out; have d1 : w5.cell? ⟨kb, o + j * 2 + 1, none⟩ = some (.slice hp N hc) := (World.cell?_of_block (CC.out w5 hgrow5)).trans C1.out))
      all_goals
        have O5 := Lib.hid hown5
        have K5 := Lib.hid (show Kept w w5 from Below.grown (HK.out.trans KA.out) hgrow5 hsA (fun y hy => (HO.out.lt y hy).1))
        rw [← HTK.out] at O5
        clear hown5 hgrow5 d0 d1 c0 c1
        go_wp2_with fail
        go_roundg (L - (j + 1))
        case measure => omega
        case rel => exact ⟨j + 1, _, rfl, rfl, by omega, by go_num, O5, K5.out⟩
    · obtain rfl : j = L := by omega
      have O2 := HO.out
      rw [List.take_of_length_le (by rw [HL.out]; exact Nat.le_refl _)] at O2
      obtain ⟨p', c', rfl, hnil, -⟩ := O2.shape
      have O3 := Lib.hid O2
      have HNL := Lib.hid hnil
      have HP0 := Lib.hid (show ∀ ad, p' = some ad → ad = ⟨ad.block, ad.off, none⟩ from fun ad e => by
        subst e
        rcases O2.2 with ⟨h, -⟩ | ⟨g, cap, cur, h, -⟩
        · cases h
        · injection h with h1; injection h1 with h1; rw [h1])
      clear O2 hnil
      go_wp2_with fail
      go_ret
      exact ⟨p', c', rfl, HK.out, O3.out.opR (fun _ _ => trivial) (fun r hr => (HT.out.lies r hr).kept HK.out), HNL.out, HP0.out⟩

set_option maxRecDepth 100000 in
set_option maxHeartbeats 4000000 in
theorem opsTheirs_any (rs : ORow) (p : Option Addr) (c : Nat) (w : World) (h : OpR (fun _ => True) w p rs) (hB : rs.length ≤ 1099511627776) :
    Calls Tryz.prog 14 #[.slice p rs.length c] w (OursPost rs w) := by
  have HT := Lib.hid h
  obtain ⟨L, hL⟩ : ∃ L, L = rs.length := ⟨_, rfl⟩
  have HL := Lib.hid hL
  rw [← hL] at hB ⊢
  clear h hL
  go_enter Tryz.func14, Tryz.ntmps14
  go_wp2_with fail
  go_loopg [3, 4] L (fun m x y wr => ∃ (j : Nat) (vv : Value), vv = x ∧ m = L - j ∧ j ≤ L ∧ y = .int .i64 j ∧ Hid (OwnQ 27 wr w.heap.size vv (rs.take j)) ∧ Kept w wr)
  case atStart => exact ⟨0, _, rfl, rfl, Nat.zero_le _, rfl, Lib.hid (OwnQ.nil _ _ _), Kept.refl w⟩
  case round =>
    obtain ⟨j, vv, rfl, hm, hj, rfl, HO, hk⟩ := hrel
    have HK := Lib.hid hk
    have hsr := Below.size hk
    clear hk
    by_cases hlt : j < L
    · have j1 : (j : Int) < (L : Int) := by omega
      have hjr : j < rs.length := by have := HL.out; omega
      obtain ⟨kb, o, hp, -, hkb0, k0, k1⟩ := HT.out.at' j hjr
      subst hp
      have hkb : kb < wr.heap.size := Nat.lt_of_lt_of_le hkb0 hsr
      have c0 := (HK.out.cells.1 kb _ hkb0).trans k0
      have c1 := (HK.out.cells.1 kb _ hkb0).trans k1
      have htk : rs.take (j + 1) = rs.take j ++ [rs[j]] := List.take_succ_eq_append_getElem hjr
      obtain ⟨r, hr⟩ : ∃ r, r = rs[j] := ⟨_, rfl⟩
      rw [← hr] at c0 c1 htk
      have HTK := Lib.hid htk
      have hll : (rs.take j).length = j := by rw [List.length_take]; omega
      have HLL := Lib.hid hll
      have hlb : (rs.take j).length ≤ 1099511627776 := by omega
      obtain ⟨TK, hTK⟩ : ∃ TK, TK = rs.take j := ⟨_, rfl⟩
      rw [← hTK] at hlb HO HTK HLL
      clear hTK
      obtain ⟨⟨xk, xn, xf, nm, xl, xd⟩, ⟨hp, hc, hq, he⟩⟩ := r
      simp only [Ob.s, Ob.l] at c0 c1
      obtain ⟨N, hN⟩ : ∃ N, N = xl.length := ⟨_, rfl⟩
      rw [← hN] at c1
      have HN := Lib.hid hN
      clear hr htk hll k0 k1 hN
      go_upto_region 5 with fail
      have KA := Lib.hid (show Kept wr ((wr.alloc (.cells #[.string nm, .slice hp N hc] 27)).drew) from ((Kept.refl wr).allocO _).drew)
      have OA := Lib.hid (HO.out.kept KA.out)
      have BA := Lib.hid (show Blk ((wr.alloc (.cells #[.string nm, .slice hp N hc] 27)).drew) wr.heap.size (cells2 (.mk xk xn xf nm xl xd, ⟨hp, hc, hq, he⟩)).toArray 27 by
        have := (Blk.fresh wr #[.string nm, .slice hp N hc] 27).drew
        rw [HN.out] at this ⊢
        exact this)
      have hsA := Nat.le_trans hsr (Below.size KA.out)
      have CC := Lib.hid (fun w5 (g : ((wr.alloc (.cells #[.string nm, .slice hp N hc] 27)).drew).grownBy w5 vv.ownBlock) => (show w5.heap[kb]? = wr.heap[kb]? from
        (g.block kb (by have := Below.size KA.out; omega) (fun e => by have := (HO.out.lt kb e.symm).1; omega)).trans (KA.out.block kb (by omega))))
      have C0 := Lib.hid c0
      have C1 := Lib.hid c1
      go_region_held3 (fun w' => w'.cell? ⟨kb, o + j * 2, none⟩ = some (.string nm) ∧ w'.cell? ⟨kb, o + j * 2 + 1, none⟩ = some (.slice hp N hc)) (first | go_keep | exact ⟨d0, d1⟩ | exact ⟨C0.out, C1.out⟩ | simp [d0, d1]) ((refine step_app_P 27 22 Tryz.underlying22 info_rop (by rfl) _ _ (by rfl) w.heap.size vv TK (by rfl) OA.out (.mk xk xn xf nm xl xd, ⟨hp, hc, hq, he⟩) wr.heap.size BA.out (by rfl) hsA hlb ?_; intro g' cap' w5 hown5 hgrow5 hlt5; have d0 : w5.cell? ⟨kb, o + j * 2, none⟩ = some (.string nm) := (World.cell?_of_block (CC.out w5 hgrow5)).trans C0.out; have d1 : w5.cell? ⟨kb, o + j * 2 + 1, none⟩ = some (.slice hp N hc) := (World.cell?_of_block (CC.out w5 hgrow5)).trans C1.out))
      all_goals
        have O5 := Lib.hid hown5
        have K5 := Lib.hid (show Kept w w5 from Below.grown (HK.out.trans KA.out) hgrow5 hsA (fun y hy => (HO.out.lt y hy).1))
        rw [← HTK.out] at O5
        clear hown5 hgrow5 d0 d1 c0 c1
        go_wp2_with fail
        go_roundg (L - (j + 1))
        case measure => omega
        case rel => exact ⟨j + 1, _, rfl, rfl, by omega, by go_num, O5, K5.out⟩
    · obtain rfl : j = L := by omega
      have O2 := HO.out
      rw [List.take_of_length_le (by rw [HL.out]; exact Nat.le_refl _)] at O2
      obtain ⟨p', c', rfl, hnil, -⟩ := O2.shape
      have O3 := Lib.hid O2
      have HNL := Lib.hid hnil
      have HP0 := Lib.hid (show ∀ ad, p' = some ad → ad = ⟨ad.block, ad.off, none⟩ from fun ad e => by
        subst e
        rcases O2.2 with ⟨h, -⟩ | ⟨g, cap, cur, h, -⟩
        · cases h
        · injection h with h1; injection h1 with h1; rw [h1])
      clear O2 hnil
      go_wp2_with fail
      go_ret
      exact ⟨p', c', rfl, HK.out, O3.out.opR (fun _ _ => trivial) (fun r hr => (HT.out.lies r hr).kept HK.out), HNL.out, HP0.out⟩

end Go.Proofs.YtkpagahnmbchjaaGreatDoor
