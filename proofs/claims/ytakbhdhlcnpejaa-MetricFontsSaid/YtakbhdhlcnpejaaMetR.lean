/-
  The document's Find: the first object of a number.
  The document's Resolve.
  The document's Get: the value of a key.
  The document's Entry.
-/
import Derived.Test.YtakbhdhlcnpejaaStoW
import Derived.Test.YtakbhdhlcnpejaaCosGet
namespace Go.Proofs.Ytakbhdhlcnpejaa
open Go.RowKit Cx Sx
set_option linter.unusedSimpArgs false
set_option linter.unusedVariables false

theorem findV_here {l : List Nm} {n : Int} {j : Nat} (hj : j < l.length) (hn : ∀ i (hi : i < j), eqN n (l[i]'(by omega)) = false) (h : eqN n l[j] = true) : findV l n = l[j].o := by
  refine find_yes hj ?_
  have h1 := findIdxN_le hj hn
  have h2 : l.findIdx (eqN n) ≤ j := findIdxN_at hj h
  have e : l.findIdx (eqN n) = j := by omega
  rw [idxN, e, if_pos hj]

theorem findV_none {l : List Nm} {n : Int} (hn : ∀ i (hi : i < l.length), eqN n l[i] = false) : findV l n = nul := by
  refine find_no ?_
  rw [idxN, if_neg]
  · omega
  · intro h
    have h1 := hn _ h
    rw [idx_hit h] at h1
    cases h1

set_option maxRecDepth 100000 in
set_option maxHeartbeats 4000000 in
theorem RFind_any (P : Nat → Prop) (l : List Nm) (p : Option Addr) (c : Nat) (t : Ob) (ht : Hd) (n : Int) (w : World) (h : NmR P w p l) :
    Calls Try.prog 41 #[fileV l p c t ht, .int .i64 n] w fun e w' => ∃ h', e = .returned (objV (findV l n) h') ∧ Kept w w' ∧ Lies (Cel P w') (findV l n) h' := by
  have HL := Lib.hid h.low
  have HB := Lib.hid (show l.length ≤ maxLen from h.len)
  have H0 := Lib.hid (In.fresh' (k := w.heap.size + 1) (In.fresh (In.start w) #[.slice p l.length c, .int .i64 t.k, .int .i64 t.n, .int .i64 t.f, .string t.s, .slice ht.p t.l.length ht.c, .slice ht.q t.d.length ht.e] 29) nul6 27 (by simp))
  have NK := Lib.hid (show ∀ b, (P b ∧ b < w.heap.size) → b ≠ w.heap.size + 1 from fun b hb => by omega)
  clear h
  unfold fileV
  go_enter Try.func41, Try.ntmps41
  go_wp2_with fail
  go_loopg [5] (l.length) (fun m i wr => ∃ (j : Nat), m = l.length - j ∧ j ≤ l.length ∧ i = .int .i64 j ∧ In w [(w.heap.size + 1, nul6, 27), (w.heap.size, #[.slice p l.length c, .int .i64 t.k, .int .i64 t.n, .int .i64 t.f, .string t.s, .slice ht.p t.l.length ht.c, .slice ht.q t.d.length ht.e], 29)] wr ∧ Hid (∀ i (hi : i < j) (hd : i < l.length), eqN n (l[i]'hd) = false))
  case atStart => exact ⟨0, by omega, Nat.zero_le _, rfl, H0.out, Lib.hid (fun i hi => absurd hi (Nat.not_lt_zero _))⟩
  case round =>
    obtain ⟨j, hm, hj, rfl, hin, HN⟩ := hrel
    have HI := Lib.hid hin
    have KI := Lib.hid (In.k hin)
    have RM := Lib.hid (hin.mem List.mem_cons_self)
    have FM := Lib.hid (hin.mem (List.mem_cons_of_mem _ List.mem_cons_self))
    clear hin H0
    obtain ⟨u0, u1, u2, u3, u4, u5⟩ := RM.out.cells6
    have uf := RM.out.free
    have uz := RM.out.lt
    obtain ⟨f0, f1, f2, f3, f4, f5, f6⟩ := FM.out.cells7
    have fz := FM.out.lt
    have hlb := HB.out
    unfold maxLen at hlb
    by_cases hlt : j < l.length
    · have j1 : (j : Int) < (l.length : Int) := by omega
      obtain ⟨b, off, ⟨p', c', q', e'⟩, hpp, hPb, hbl, hx, z0, z1, y0, y1, y2, y3, y4, y5⟩ := (HL.out.kept KI.out).at' j hlt
      subst hpp
      have NB := Lib.hid hPb
      simp only [] at y4 y5
      cases hk : eqN n l[j]
      · have HN2 := Lib.hid (show ∀ i (hi : i < j + 1) (hd : i < l.length), eqN n (l[i]'hd) = false from fun i hi hd => by
          by_cases e : i < j
          · exact HN.out i e hd
          · obtain rfl : i = j := by omega
            exact hk)
        obtain ⟨xn, hxn⟩ : ∃ xn, l[j].n = xn := ⟨_, rfl⟩
        have hkb : (xn == n) = false := by rw [← hxn]; exact hk
        rw [hxn] at z0
        clear hk hxn hx hPb z1 y0 y1 y2 y3 y4 y5
        go_wp2_with fail
        go_roundg (l.length - (j + 1))
        case measure => omega
        case rel =>
          exact ⟨j + 1, rfl, by omega, by go_num, by (repeat (with_reducible first | exact HI.out | refine In.drew ?_)), HN2⟩
      · have HG := Lib.hid (show findV l n = l[j].o from findV_here hlt (fun i hi => HN.out i hi (by omega)) hk)
        obtain ⟨xn, hxn⟩ : ∃ xn, l[j].n = xn := ⟨_, rfl⟩
        have hkb : (xn == n) = true := by rw [← hxn]; exact hk
        rw [hxn] at z0
        obtain ⟨x, hxe⟩ : ∃ x, l[j].o = x := ⟨_, rfl⟩
        rw [hxe] at y0 y1 y2 y3 y4 y5 hx HG
        have XL := Lib.hid hx
        clear hk hxn hxe hx hPb z1
        go_wp2_with fail
        refine bodyPost_ret (v := .agg #[.int .i64 x.k, .int .i64 x.n, .int .i64 x.f, .string x.s, .slice p' x.l.length c', .slice q' x.d.length e']) ?_ rfl ⟨⟨p', c', q', e'⟩, by rw [HG.out]; rfl, ?_, ?_⟩
        · simp [results, Try.results41, go_sem, u0, u1, u2, u3, u4, u5]
        · repeat (with_reducible first | exact KI.out | refine Kept.drew ?_ | refine Kept.alloc ?_ _ _ | refine Kept.set ?_ (by omega) _)
        · rw [HG.out]
          refine Lies.weak (P := fun b => P b ∧ b < w.heap.size) ?_ (fun b hb => hb.1)
          repeat (with_reducible first | exact XL.out | refine Lies.drew ?_ | refine Lies.set ?_ NK.out _ | refine Lies.alloc ?_ _)
    · obtain rfl : j = l.length := by omega
      have HG := Lib.hid (show findV l n = nul from findV_none fun i hi => HN.out i hi hi)
      go_wp2_with fail
      refine bodyPost_ret (v := .agg nul6) ?_ rfl ⟨Hd.none, by rw [HG.out]; rfl, ?_, by rw [HG.out]; exact Lies.flat _ _ _ _ _ _ (Nat.zero_le _)⟩
      · simp [results, Try.results41, go_sem, u0, u1, u2, u3, u4, u5]
      · repeat (with_reducible first | exact KI.out | refine Kept.drew ?_ | refine Kept.alloc ?_ _ _ | refine Kept.set ?_ (by omega) _)

end Go.Proofs.Ytakbhdhlcnpejaa

namespace Go.Proofs.Ytakbhdhlcnpejaa
open Go.RowKit Cx Sx
set_option linter.unusedSimpArgs false
set_option linter.unusedVariables false

set_option maxRecDepth 100000 in
set_option maxHeartbeats 4000000 in
theorem RResolve_any (P : Nat → Prop) (l : List Nm) (p : Option Addr) (c : Nat) (t : Ob) (ht : Hd) (o : Ob) (ho : Hd) (w : World) (h : NmR P w p l) (hl : Lies (Cel P w) o ho) (X : Int × Ob) (hX : X = resV l o) :
    Calls Try.prog 26 #[fileV l p c t ht, objV o ho] w fun e w' => ∃ h', e = .returned (.tuple #[objV X.2 h', .int .i64 X.1]) ∧ Kept w w' ∧ Lies (Cel P w') X.2 h' := by
  have HL := Lib.hid h.low
  have HX := Lib.hid hX
  have HO := Lib.hid (show Lies (Cel (fun b => P b ∧ b < w.heap.size) w) o ho from hl.keep fun b hb hlt => ⟨⟨hb, hlt⟩, rfl⟩)
  clear h hl hX
  obtain ⟨op, oc, oq, oe⟩ := ho
  have H1 := Lib.hid (In.fresh' (k := w.heap.size + 1) (In.fresh (In.start w) #[.slice p l.length c, .int .i64 t.k, .int .i64 t.n, .int .i64 t.f, .string t.s, .slice ht.p t.l.length ht.c, .slice ht.q t.d.length ht.e] 29) #[.int .i64 o.k, .int .i64 o.n, .int .i64 o.f, .string o.s, .slice op o.l.length oc, .slice oq o.d.length oe] 27 (by simp))
  have H2 := Lib.hid (In.fresh' (k := w.heap.size + 1 + 1) H1.out nul6 27 (by simp))
  have H3 := Lib.hid (show In w [(w.heap.size + 1, #[.int .i64 o.k, .int .i64 o.n, .int .i64 o.f, .string o.s, .slice op o.l.length oc, .slice oq o.d.length oe], 27), (w.heap.size + 1 + 1, nul6, 27), (w.heap.size, #[.slice p l.length c, .int .i64 t.k, .int .i64 t.n, .int .i64 t.f, .string t.s, .slice ht.p t.l.length ht.c, .slice ht.q t.d.length ht.e], 29)] (((w.alloc (.cells #[.slice p l.length c, .int .i64 t.k, .int .i64 t.n, .int .i64 t.f, .string t.s, .slice ht.p t.l.length ht.c, .slice ht.q t.d.length ht.e] 29)).alloc (.cells #[.int .i64 o.k, .int .i64 o.n, .int .i64 o.f, .string o.s, .slice op o.l.length oc, .slice oq o.d.length oe] 27)).alloc (.cells nul6 27)) from
    ⟨H2.out.1, fun x hx => H2.out.2 x (by simp only [List.mem_cons, List.not_mem_nil, or_false] at hx ⊢; rcases hx with h | h | h <;> simp [h])⟩)
  have NK := Lib.hid (show ∀ b, (P b ∧ b < w.heap.size) → b ≠ w.heap.size + 1 + 1 from fun b hb => by omega)
  have NO := Lib.hid (show ∀ b, (P b ∧ b < w.heap.size) → b ≠ w.heap.size + 1 from fun b hb => by omega)
  unfold fileV objV
  simp only []
  go_enter Try.func26, Try.ntmps26
  go_wp2_with fail
  go_loopg [6] 65 (fun m i wr => ∃ (j : Nat) (x : Ob) (xp : Option Addr) (xc : Nat) (xq : Option Addr) (xe : Nat), m = 65 - j ∧ j ≤ 64 ∧ i = .int .i64 j ∧ Hid (stepsV (64 - j) l x = stepsV 64 l o) ∧ In w [(w.heap.size + 1, #[.int .i64 x.k, .int .i64 x.n, .int .i64 x.f, .string x.s, .slice xp x.l.length xc, .slice xq x.d.length xe], 27), (w.heap.size + 1 + 1, nul6, 27), (w.heap.size, #[.slice p l.length c, .int .i64 t.k, .int .i64 t.n, .int .i64 t.f, .string t.s, .slice ht.p t.l.length ht.c, .slice ht.q t.d.length ht.e], 29)] wr ∧ Lies (Cel (fun b => P b ∧ b < w.heap.size) wr) x ⟨xp, xc, xq, xe⟩)
  case atStart => exact ⟨0, o, op, oc, oq, oe, rfl, Nat.zero_le _, rfl, Lib.hid rfl, H3.out, ((HO.out.alloc _).alloc _).alloc _⟩
  case round =>
    obtain ⟨j, x, xp, xc, xq, xe, hm, hj, rfl, HS, hin, hlx⟩ := hrel
    have HI := Lib.hid hin
    have KI := Lib.hid (In.k hin)
    have LX := Lib.hid hlx
    have OM := Lib.hid (hin.mem List.mem_cons_self)
    have RM := Lib.hid (hin.mem (List.mem_cons_of_mem _ List.mem_cons_self))
    have FM := Lib.hid (hin.mem (List.mem_cons_of_mem _ (List.mem_cons_of_mem _ List.mem_cons_self)))
    obtain ⟨o0, o1, o2, o3, o4, o5⟩ := OM.out.cells6
    have of_ := OM.out.free
    have oz := OM.out.lt
    obtain ⟨u0, u1, u2, u3, u4, u5⟩ := RM.out.cells6
    have uf := RM.out.free
    have uz := RM.out.lt
    obtain ⟨f0, f1, f2, f3, f4, f5, f6⟩ := FM.out.cells7
    have fz := FM.out.lt
    clear hin hlx H1 H2 H3
    by_cases hlt : j < 64
    · by_cases hk : x.k = 7
      · have hkb : (x.k == 7) = true := by rw [hk]; rfl
        have HS2 := Lib.hid (show stepsV (64 - (j + 1)) l (findV l x.n) = stepsV 64 l o by
          rw [← HS.out, show 64 - j = (64 - (j + 1)) + 1 by omega, stepsV, if_pos hk])
        have CF := Lib.hid (RFind_any _ l p c t ht x.n wr (HL.out.kept KI.out))
        unfold fileV at CF
        obtain ⟨y, hy⟩ : ∃ y, y = findV l x.n := ⟨_, rfl⟩
        rw [← hy] at CF HS2
        clear HS hk hy
        go_wp2_with fail
        (with_reducible refine CF.out.mono ?_)
        rintro e w3 ⟨⟨yp, yc, yq, ye⟩, rfl, hk3, hl3⟩
        have H3 := Lib.hid (HI.out.kept hk3)
        have L3 := Lib.hid hl3
        have B3 := Lib.hid (OM.out.kept hk3)
        unfold objV
        simp only []
        clear hk3 hl3 o0 o1 o2 o3 o4 o5 of_ oz u0 u1 u2 u3 u4 u5 uf uz f0 f1 f2 f3 f4 f5 f6 fz
        obtain ⟨o0, o1, o2, o3, o4, o5⟩ := B3.out.cells6
        have bf := B3.out.free
        have bz := B3.out.lt
        go_wp2_with fail
        go_roundg (65 - (j + 1))
        case measure => omega
        case rel =>
          refine ⟨j + 1, y, yp, yc, yq, ye, rfl, by omega, by go_num, HS2, ?_, ?_⟩
          · exact In.set6 H3.out.tail B3.out (Nat.le_succ _) (fun x hx => by
              simp only [List.mem_cons, List.not_mem_nil, or_false] at hx
              rcases hx with rfl | rfl <;> simp) _ _ _ _ _ _
          · repeat (with_reducible first | exact L3.out | refine Lies.set ?_ NO.out _ | refine Lies.alloc ?_ _)
      · have hkb : (x.k == 7) = false := by simpa using hk
        have HV := Lib.hid (show X = (0, x) by
          rw [HX.out, resV, ← HS.out, steps_stop hk, if_neg hk])
        clear HS hk
        go_wp2_with fail
        refine bodyPost_ret (v := .tuple #[.agg #[.int .i64 x.k, .int .i64 x.n, .int .i64 x.f, .string x.s, .slice xp x.l.length xc, .slice xq x.d.length xe], .int .i64 0]) ?_ rfl ⟨⟨xp, xc, xq, xe⟩, by rw [HV.out]; first | done | rfl, ?_, ?_⟩
        · simp [results, Try.results26, go_sem, u0, u1, u2, u3, u4, u5]
        · repeat (with_reducible first | exact KI.out | refine Kept.drew ?_ | refine Kept.alloc ?_ _ _ | refine Kept.set ?_ (by omega) _)
        · rw [HV.out]
          refine Lies.weak (P := fun b => P b ∧ b < w.heap.size) ?_ (fun b hb => hb.1)
          repeat (with_reducible first | exact LX.out | refine Lies.set ?_ NK.out _ | refine Lies.alloc ?_ _)
    · obtain rfl : j = 64 := by omega
      have HS3 := Lib.hid (show stepsV 64 l o = x from HS.out.symm)
      by_cases hk : x.k = 7
      · have hkb : (x.k == 7) = true := by rw [hk]; rfl
        have HV := Lib.hid (show X = (7, nul) by rw [HX.out, resV, HS3.out, if_pos hk])
        clear HS hk HS3
        go_wp2_with fail
        refine bodyPost_ret (v := .tuple #[.agg nul6, .int .i64 7]) ?_ rfl ⟨Hd.none, by rw [HV.out]; rfl, ?_, by rw [HV.out]; exact Lies.flat _ _ _ _ _ _ (Nat.zero_le _)⟩
        · simp [results, Try.results26, go_sem, u0, u1, u2, u3, u4, u5]
        · repeat (with_reducible first | exact KI.out | refine Kept.drew ?_ | refine Kept.alloc ?_ _ _ | refine Kept.set ?_ (by omega) _)
      · have hkb : (x.k == 7) = false := by simpa using hk
        have HV := Lib.hid (show X = (0, x) by rw [HX.out, resV, HS3.out, if_neg hk])
        clear HS hk HS3
        go_wp2_with fail
        refine bodyPost_ret (v := .tuple #[.agg #[.int .i64 x.k, .int .i64 x.n, .int .i64 x.f, .string x.s, .slice xp x.l.length xc, .slice xq x.d.length xe], .int .i64 0]) ?_ rfl ⟨⟨xp, xc, xq, xe⟩, by rw [HV.out]; first | done | rfl, ?_, ?_⟩
        · simp [results, Try.results26, go_sem, u0, u1, u2, u3, u4, u5]
        · repeat (with_reducible first | exact KI.out | refine Kept.drew ?_ | refine Kept.alloc ?_ _ _ | refine Kept.set ?_ (by omega) _)
        · rw [HV.out]
          refine Lies.weak (P := fun b => P b ∧ b < w.heap.size) ?_ (fun b hb => hb.1)
          repeat (with_reducible first | exact LX.out | refine Lies.set ?_ NK.out _ | refine Lies.alloc ?_ _)

end Go.Proofs.Ytakbhdhlcnpejaa

namespace Go.Proofs.Ytakbhdhlcnpejaa
open Go.RowKit Cx
set_option linter.unusedSimpArgs false
set_option linter.unusedVariables false

theorem getD_here {d : List Entr} {key : ByteArray} {j : Nat} (hj : j < d.length) (hn : ∀ i (hi : i < j), keq (d[i]'(by omega)).1 key = false) (h : keq d[j].1 key = true) : getD d key = d[j].2 := by
  refine (idxE_get d key).2 j hj ?_
  have h1 := findIdx_le (p := fun e => keq e.1 key) hj hn
  have h2 : d.findIdx (fun e => keq e.1 key) ≤ j := findIdx_at hj h
  have e : d.findIdx (fun e => keq e.1 key) = j := by omega
  rw [idxE, e, if_pos hj]

theorem getD_none {d : List Entr} {key : ByteArray} (hn : ∀ i (hi : i < d.length), keq d[i].1 key = false) : getD d key = nul := by
  refine (idxE_get d key).1 ?_
  rw [idxE, if_neg]
  · omega
  · intro h
    have h1 := hn _ h
    have h2 := find_hit (p := fun e => keq e.1 key) (d := d) h
    rw [show keq d[d.findIdx (fun e => keq e.1 key)].1 key = false from h1] at h2
    cases h2

set_option maxRecDepth 100000 in
set_option maxHeartbeats 4000000 in
theorem RGet_any (P : Nat → Prop) (o : Ob) (h : Hd) (key : ByteArray) (w : World) (hl : Lies (Cel P w) o h) :
    Calls Try.prog 42 #[objV o h, .string key] w fun e w' => ∃ h', e = .returned (objV (Cx.get o key) h') ∧ Kept w w' ∧ Lies (Cel P w') (Cx.get o key) h' := by
  have HL := Lib.hid (show Lies (Cel (fun b => P b ∧ b < w.heap.size) w) o h from hl.keep fun b hb hlt => ⟨⟨hb, hlt⟩, rfl⟩)
  obtain ⟨hp, hc, hq, he⟩ := h
  have hdb := hl.bounds.2.1
  unfold maxLen at hdb
  have HDB := Lib.hid hdb
  have H0 := Lib.hid (In.fresh' (k := w.heap.size + 1) (In.fresh (In.start w) #[.int .i64 o.k, .int .i64 o.n, .int .i64 o.f, .string o.s, .slice hp o.l.length hc, .slice hq o.d.length he] 27) nul6 27 (by simp))
  have NK := Lib.hid (show ∀ b, (P b ∧ b < w.heap.size) → b ≠ w.heap.size + 1 from fun b hb => by omega)
  clear hl hdb
  obtain ⟨o0, o1, o2, o3, o4, o5⟩ := (H0.out.mem (List.mem_cons_of_mem _ List.mem_cons_self)).cells6
  obtain ⟨u0, u1, u2, u3, u4, u5⟩ := (H0.out.mem List.mem_cons_self).cells6
  have uf := (H0.out.mem List.mem_cons_self).free
  have uz := (H0.out.mem List.mem_cons_self).lt
  have K0 := Lib.hid (In.k H0.out)
  unfold objV
  simp only []
  go_enter Try.func42, Try.ntmps42
  have hw : (o.k == 6) = true ∨ ((o.k == 6) = false ∧ (o.k == 8) = true) ∨ ((o.k == 6) = false ∧ (o.k == 8) = false) := by
    cases o.k == 6 <;> cases o.k == 8 <;> simp
  have HW := Lib.hid hw
  clear hw
  rcases HW.out with k6 | ⟨k6, k8⟩ | ⟨k6, k8⟩
  rotate_left 2
  · have HG := Lib.hid (show Cx.get o key = nul by unfold Cx.get Ob.ents; rw [k6, k8]; rfl)
    go_wp2_with fail
    refine bodyPost_ret (v := .agg nul6) ?_ rfl ⟨Hd.none, by rw [HG.out]; rfl, ?_, by rw [HG.out]; exact Lies.flat _ _ _ _ _ _ (Nat.zero_le _)⟩
    · simp [results, Try.results42, go_sem, u0, u1, u2, u3, u4, u5]
    · repeat (with_reducible first | exact K0.out | refine Kept.drew ?_ | refine Kept.alloc ?_ _ _ | refine Kept.set ?_ (by omega) _)
  all_goals
    have HG := Lib.hid (show Cx.get o key = getD o.d key by unfold Cx.get Ob.ents; (first | rw [k6, k8] | rw [k6]); rfl)
    have LD := Lib.hid (show Lies (Cel (fun b => P b ∧ b < w.heap.size) w) (dictO o.d) ⟨none, 0, hq, he⟩ from HL.out.entsOnly)
    go_wp2_with fail
    go_loopg [5] (o.d.length) (fun m i wr => ∃ (j : Nat), m = o.d.length - j ∧ j ≤ o.d.length ∧ i = .int .i64 j ∧ In w [(w.heap.size + 1, nul6, 27), (w.heap.size, #[.int .i64 o.k, .int .i64 o.n, .int .i64 o.f, .string o.s, .slice hp o.l.length hc, .slice hq o.d.length he], 27)] wr ∧ Hid (∀ i (hi : i < j) (hd : i < o.d.length), keq (o.d[i]'hd).1 key = false))
    case atStart => exact ⟨0, by omega, Nat.zero_le _, rfl, by (repeat (with_reducible first | exact H0.out | refine In.drew ?_)), Lib.hid (fun i hi => absurd hi (Nat.not_lt_zero _))⟩
    case round =>
      obtain ⟨j, hm, hj, rfl, hin, HN⟩ := hrel
      have HI := Lib.hid hin
      have KI := Lib.hid (In.k hin)
      have RM := Lib.hid (hin.mem List.mem_cons_self)
      have FM := Lib.hid (hin.mem (List.mem_cons_of_mem _ List.mem_cons_self))
      clear hin H0 K0 o0 o1 o2 o3 o4 o5 u0 u1 u2 u3 u4 u5 uf uz
      obtain ⟨u0, u1, u2, u3, u4, u5⟩ := RM.out.cells6
      have uf := RM.out.free
      have uz := RM.out.lt
      obtain ⟨o0, o1, o2, o3, o4, o5⟩ := FM.out.cells6
      have oz := FM.out.lt
      have hlb := HDB.out
      by_cases hlt : j < o.d.length
      · have j1 : (j : Int) < (o.d.length : Int) := by omega
        obtain ⟨ek, x, b, off, ⟨p', c', q', e'⟩, hxe, hqq, hPb, hbl, hx, hks, z0, y0, y1, y2, y3, y4, y5⟩ := (LD.out.kept KI.out).entry j hlt
        have hxd : o.d[j]'hlt = (ek, x) := hxe
        simp only [] at hqq y4 y5
        subst hqq
        have NB := Lib.hid hPb
        cases hk : keq ek key
        · have HN2 := Lib.hid (show ∀ i (hi : i < j + 1) (hd : i < o.d.length), keq (o.d[i]'hd).1 key = false from fun i hi hd => by
            by_cases e : i < j
            · exact HN.out i e hd
            · obtain rfl : i = j := by omega
              rw [hxd]; exact hk)
          have hkb : (ek.toList == key.toList) = false := hk
          clear hk hxe hxd hx hPb y0 y1 y2 y3 y4 y5
          go_wp2_with fail
          go_roundg (o.d.length - (j + 1))
          case measure => omega
          case rel =>
            exact ⟨j + 1, rfl, by omega, by go_num, by (repeat (with_reducible first | exact HI.out | refine In.drew ?_)), HN2⟩
        · have HG2 := Lib.hid (show Cx.get o key = x by
            rw [HG.out, getD_here hlt (fun i hi => HN.out i hi (by omega)) (by rw [hxd]; exact hk)]; exact congrArg Prod.snd hxe)
          have hkb : (ek.toList == key.toList) = true := hk
          have XL := Lib.hid hx
          clear hk hxe hxd hx hPb
          go_wp2_with fail
          refine bodyPost_ret (v := .agg #[.int .i64 x.k, .int .i64 x.n, .int .i64 x.f, .string x.s, .slice p' x.l.length c', .slice q' x.d.length e']) ?_ rfl ⟨⟨p', c', q', e'⟩, by rw [HG2.out]; first | done | rfl, ?_, ?_⟩
          · simp [results, Try.results42, go_sem, u0, u1, u2, u3, u4, u5]
          · repeat (with_reducible first | exact KI.out | refine Kept.drew ?_ | refine Kept.alloc ?_ _ _ | refine Kept.set ?_ (by omega) _)
          · rw [HG2.out]
            refine Lies.weak (P := fun b => P b ∧ b < w.heap.size) ?_ (fun b hb => hb.1)
            repeat (with_reducible first | exact XL.out | refine Lies.drew ?_ | refine Lies.set ?_ NK.out _ | refine Lies.alloc ?_ _)
      · obtain rfl : j = o.d.length := by omega
        have HG2 := Lib.hid (show Cx.get o key = nul by rw [HG.out]; exact getD_none fun i hi => HN.out i hi hi)
        go_wp2_with fail
        refine bodyPost_ret (v := .agg nul6) ?_ rfl ⟨Hd.none, by rw [HG2.out]; rfl, ?_, by rw [HG2.out]; exact Lies.flat _ _ _ _ _ _ (Nat.zero_le _)⟩
        · simp [results, Try.results42, go_sem, u0, u1, u2, u3, u4, u5]
        · repeat (with_reducible first | exact KI.out | refine Kept.drew ?_ | refine Kept.alloc ?_ _ _ | refine Kept.set ?_ (by omega) _)

end Go.Proofs.Ytakbhdhlcnpejaa

namespace Go.Proofs.Ytakbhdhlcnpejaa
open Go.RowKit Cx Sx
set_option linter.unusedSimpArgs false
set_option linter.unusedVariables false

set_option maxRecDepth 100000 in
set_option maxHeartbeats 4000000 in
theorem REntry_any (P : Nat → Prop) (l : List Nm) (p : Option Addr) (c : Nat) (t : Ob) (ht : Hd) (o : Ob) (ho : Hd) (key : ByteArray) (w : World) (h : NmR P w p l) (hl : Lies (Cel P w) o ho) (X : Int × Ob) (hX : X = entryV l o key) :
    Calls Try.prog 27 #[fileV l p c t ht, objV o ho, .string key] w fun e w' => ∃ h', e = .returned (.tuple #[objV X.2 h', .int .i64 X.1]) ∧ Kept w w' ∧ Lies (Cel P w') X.2 h' := by
  have HL := Lib.hid h.low
  have HX := Lib.hid hX
  have HO := Lib.hid (show Lies (Cel (fun b => P b ∧ b < w.heap.size) w) o ho from hl.keep fun b hb hlt => ⟨⟨hb, hlt⟩, rfl⟩)
  clear h hl hX
  obtain ⟨op, oc, oq, oe⟩ := ho
  have H1 := Lib.hid (In.fresh' (k := w.heap.size + 1) (In.fresh (In.start w) #[.slice p l.length c, .int .i64 t.k, .int .i64 t.n, .int .i64 t.f, .string t.s, .slice ht.p t.l.length ht.c, .slice ht.q t.d.length ht.e] 29) #[.int .i64 o.k, .int .i64 o.n, .int .i64 o.f, .string o.s, .slice op o.l.length oc, .slice oq o.d.length oe] 27 (by simp))
  have H2 := Lib.hid (In.fresh' (k := w.heap.size + 1 + 1) H1.out nul6 27 (by simp))
  have NK := Lib.hid (show ∀ b, (P b ∧ b < w.heap.size) → b ≠ w.heap.size + 1 + 1 from fun b hb => by omega)
  obtain ⟨Y, hY⟩ : ∃ Y, Y = resV l o := ⟨_, rfl⟩
  have CR := Lib.hid (RResolve_any _ l p c t ht o ⟨op, oc, oq, oe⟩ _ (HL.out.kept (In.k H2.out)) (HO.out.kept (In.k H2.out)) Y hY)
  have HXY := Lib.hid (show X = if Y.1 = 0 then resV l (Cx.get Y.2 key) else (Y.1, nul) by rw [HX.out, entryV, ← hY])
  clear hY HX
  obtain ⟨er, y⟩ := Y
  unfold fileV objV at CR
  unfold fileV objV
  simp only [] at CR HXY ⊢
  go_enter Try.func27, Try.ntmps27
  go_wp2_with fail
  (with_reducible refine CR.out.mono ?_)
  rintro e w2 ⟨⟨yp, yc, yq, ye⟩, rfl, hk2, hl2⟩
  have H3 := Lib.hid (In.fresh (H2.out.kept hk2) #[.int .i64 y.k, .int .i64 y.n, .int .i64 y.f, .string y.s, .slice yp y.l.length yc, .slice yq y.d.length ye] 27)
  have HSZ := Lib.hid (show w.heap.size + 1 + 1 < w2.heap.size from ((H2.out.kept hk2).mem List.mem_cons_self).lt)
  have L3 := Lib.hid (hl2.alloc (.cells #[.int .i64 y.k, .int .i64 y.n, .int .i64 y.f, .string y.s, .slice yp y.l.length yc, .slice yq y.d.length ye] 27))
  have K3 := Lib.hid (In.k H3.out)
  have RM := Lib.hid (H3.out.mem (List.mem_cons_of_mem _ List.mem_cons_self))
  obtain ⟨u0, u1, u2, u3, u4, u5⟩ := RM.out.cells6
  have uf := RM.out.free
  have uz := RM.out.lt
  clear hk2 hl2 H1 H2 CR
  simp only []
  by_cases he : er = 0
  · subst he
    have HV := Lib.hid (show X = resV l (Cx.get y key) by rw [HXY.out, if_pos rfl])
    have FM := Lib.hid (H3.out.mem (List.mem_cons_of_mem _ (List.mem_cons_of_mem _ (List.mem_cons_of_mem _ List.mem_cons_self))))
    have YM := Lib.hid (H3.out.mem List.mem_cons_self)
    go_wp2_with fail
    obtain ⟨YB, hYB⟩ : ∃ YB, YB = w2.heap.size := ⟨_, rfl⟩
    obtain ⟨W3, hW3⟩ : ∃ W3, W3 = w2.alloc (.cells #[.int .i64 y.k, .int .i64 y.n, .int .i64 y.f, .string y.s, .slice yp y.l.length yc, .slice yq y.d.length ye] 27) := ⟨_, rfl⟩
    rw [← hW3, ← hYB]
    rw [← hW3, ← hYB] at YM H3
    rw [← hW3] at FM L3 K3 RM uf uz u0 u1 u2 u3 u4 u5
    have hfw : w.heap.size + 1 + 1 ≠ w.heap.size := by omega
    have hyw : w.heap.size + 1 + 1 ≠ YB := by rw [hYB]; exact Nat.ne_of_lt HSZ.out
    have CG := Lib.hid (fun W (k : Kept W3 W) => RGet_any _ y ⟨yp, yc, yq, ye⟩ key W (L3.out.kept k))
    unfold objV at CG
    simp only [] at CG
    obtain ⟨z, hz⟩ : ∃ z, z = Cx.get y key := ⟨_, rfl⟩
    rw [← hz] at CG HV
    have CR2 := Lib.hid (fun W (zh : Hd) (k : Kept w W) (hlz : Lies (Cel (fun b => P b ∧ b < w.heap.size) W) z zh) => RResolve_any _ l p c t ht z zh W (HL.out.kept k) hlz X HV.out)
    unfold fileV objV at CR2
    clear hz hYB hW3 u0 u1 u2 u3 u4 u5 uf uz HSZ HV
    obtain ⟨f0, f1, f2, f3, f4, f5, f6⟩ := (H3.out.mem (List.mem_cons_of_mem _ (List.mem_cons_of_mem _ (List.mem_cons_of_mem _ List.mem_cons_self)))).cells7
    obtain ⟨y0, y1, y2, y3, y4, y5⟩ := (H3.out.mem List.mem_cons_self).cells6
    obtain ⟨u0, u1, u2, u3, u4, u5⟩ := (H3.out.mem (List.mem_cons_of_mem _ List.mem_cons_self)).cells6
    have uf := (H3.out.mem (List.mem_cons_of_mem _ List.mem_cons_self)).free
    have uz := (H3.out.mem (List.mem_cons_of_mem _ List.mem_cons_self)).lt
    go_region_held3 (fun w' => w'.cell? ⟨w.heap.size, 0, none⟩ = some (.slice p l.length c) ∧ w'.cell? ⟨w.heap.size, 1, none⟩ = some (.int .i64 t.k) ∧ w'.cell? ⟨w.heap.size, 2, none⟩ = some (.int .i64 t.n) ∧ w'.cell? ⟨w.heap.size, 3, none⟩ = some (.int .i64 t.f) ∧ w'.cell? ⟨w.heap.size, 4, none⟩ = some (.string t.s) ∧ w'.cell? ⟨w.heap.size, 5, none⟩ = some (.slice ht.p t.l.length ht.c) ∧ w'.cell? ⟨w.heap.size, 6, none⟩ = some (.slice ht.q t.d.length ht.e) ∧ w'.cell? ⟨YB, 0, none⟩ = some (.int .i64 y.k) ∧ w'.cell? ⟨YB, 1, none⟩ = some (.int .i64 y.n) ∧ w'.cell? ⟨YB, 2, none⟩ = some (.int .i64 y.f) ∧ w'.cell? ⟨YB, 3, none⟩ = some (.string y.s) ∧ w'.cell? ⟨YB, 4, none⟩ = some (.slice yp y.l.length yc) ∧ w'.cell? ⟨YB, 5, none⟩ = some (.slice yq y.d.length ye)) (go_keep)
      (first
        | (go_at_call 42; (first | (with_reducible refine (CG.out _ (Kept.refl _)).mono ?_) | (with_reducible refine (CG.out _ (Kept.refl _).drew).mono ?_)); rintro e wg ⟨⟨zp, zc, zq, ze⟩, rfl, hkg, hlg⟩; (have KG := Lib.hid (show Kept W3 wg from by first | exact hkg | exact ((Kept.refl _).drew).trans hkg)); (have LG := Lib.hid hlg); clear hkg hlg; (have H4 := Lib.hid (H3.out.kept KG.out)); (clear u0 u1 u2 u3 u4 u5 uf uz f0 f1 f2 f3 f4 f5 f6 y0 y1 y2 y3 y4 y5); obtain ⟨f0, f1, f2, f3, f4, f5, f6⟩ := (H4.out.mem (List.mem_cons_of_mem _ (List.mem_cons_of_mem _ (List.mem_cons_of_mem _ List.mem_cons_self)))).cells7; obtain ⟨y0, y1, y2, y3, y4, y5⟩ := (H4.out.mem List.mem_cons_self).cells6; obtain ⟨u0, u1, u2, u3, u4, u5⟩ := (H4.out.mem (List.mem_cons_of_mem _ List.mem_cons_self)).cells6; have uf := (H4.out.mem (List.mem_cons_of_mem _ List.mem_cons_self)).free; have uz := (H4.out.mem (List.mem_cons_of_mem _ List.mem_cons_self)).lt; simp only [])
        | (go_at_call 26; (first | (with_reducible refine (CR2.out _ ⟨zp, zc, zq, ze⟩ (In.k H4.out) LG.out).mono ?_) | (with_reducible refine (CR2.out _ ⟨zp, zc, zq, ze⟩ (In.k H4.out).drew LG.out.drew).mono ?_)); rintro e wr ⟨⟨xp, xc, xq, xe⟩, rfl, hkr, hlr⟩; (have H5 := Lib.hid (show In w _ wr from by first | exact H4.out.kept hkr | exact H4.out.drew.kept hkr)); (have LR := Lib.hid hlr); clear hkr hlr; (clear u0 u1 u2 u3 u4 u5 uf uz f0 f1 f2 f3 f4 f5 f6 y0 y1 y2 y3 y4 y5); obtain ⟨f0, f1, f2, f3, f4, f5, f6⟩ := (H5.out.mem (List.mem_cons_of_mem _ (List.mem_cons_of_mem _ (List.mem_cons_of_mem _ List.mem_cons_self)))).cells7; obtain ⟨y0, y1, y2, y3, y4, y5⟩ := (H5.out.mem List.mem_cons_self).cells6; obtain ⟨u0, u1, u2, u3, u4, u5⟩ := (H5.out.mem (List.mem_cons_of_mem _ List.mem_cons_self)).cells6; have uf := (H5.out.mem (List.mem_cons_of_mem _ List.mem_cons_self)).free; have uz := (H5.out.mem (List.mem_cons_of_mem _ List.mem_cons_self)).lt; simp only []))
    all_goals
      go_wp2_with fail
      refine bodyPost_ret (v := .tuple #[.agg #[.int .i64 X.2.k, .int .i64 X.2.n, .int .i64 X.2.f, .string X.2.s, .slice xp X.2.l.length xc, .slice xq X.2.d.length xe], .int .i64 X.1]) ?_ rfl ⟨⟨xp, xc, xq, xe⟩, rfl, ?_, ?_⟩
      · simp [results, Try.results27, go_sem, u0, u1, u2, u3, u4, u5]
      · have K5 := Lib.hid (In.k H5.out)
        repeat (with_reducible first | exact K5.out | refine Kept.drew ?_ | refine Kept.drewN ?_ _ | refine Kept.alloc ?_ _ _ | refine Kept.set ?_ (by omega) _)
      · refine Lies.weak (P := fun b => P b ∧ b < w.heap.size) ?_ (fun b hb => hb.1)
        repeat (with_reducible first | exact LR.out | refine Lies.drew ?_ | refine Lies.set ?_ NK.out _ | refine Lies.alloc ?_ _)
  · have HV := Lib.hid (show X = (er, nul) by rw [HXY.out, if_neg he])
    have hne : (er != 0) = true := by simpa using he
    clear HXY he
    go_wp2_with fail
    refine bodyPost_ret (v := .tuple #[.agg nul6, .int .i64 er]) ?_ rfl ⟨Hd.none, by rw [HV.out]; first | done | rfl, ?_, by rw [HV.out]; exact Lies.flat _ _ _ _ _ _ (Nat.zero_le _)⟩
    · simp [results, Try.results27, go_sem, u0, u1, u2, u3, u4, u5]
    · repeat (with_reducible first | exact K3.out | refine Kept.drew ?_ | refine Kept.alloc ?_ _ _ | refine Kept.set ?_ (by omega) _)

end Go.Proofs.Ytakbhdhlcnpejaa
