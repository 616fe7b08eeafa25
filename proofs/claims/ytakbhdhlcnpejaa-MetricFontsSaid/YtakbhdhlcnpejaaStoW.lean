/-
  slices.IndexFunc over numbered objects; what package store's place, placeAhead, Find answer.
  What an object leads to: package store's Resolve and Entry.
  What an entry leads to: package store's Entry.
-/
import Derived.Test.YtakbhdhlcnpejaaStoRow
import Derived.Test.YtakbhdhlcnpejaaCosGet
import Derived.Test.YtakbhdhlcnpejaaCosEntry
namespace Go.Proofs.Ytakbhdhlcnpejaa
open Go.RowKit Cx Sx
set_option linter.unusedSimpArgs false
set_option linter.unusedVariables false

/-- A question on a numbered object that turns nothing that was there. -/
def AsksN (g : Nat) (lb : Array Value) (p : Nm → Bool) (w : World) : Prop :=
  ∀ (x : Nm) (h : Hd) (wx : World), Kept w wx → Calls Try.prog g (#[nmV x h] ++ lb) wx fun en w' => en = .returned (.bool (p x)) ∧ Kept wx w'
theorem findIdxN_le {p : Nm → Bool} {d : List Nm} {j : Nat} (hj : j < d.length) (h : ∀ i (hi : i < j), p (d[i]'(by omega)) = false) : j ≤ d.findIdx p := by
  rcases Nat.lt_or_ge (d.findIdx p) j with hlt | hge
  · have h1 := h _ hlt
    have h2 := idx_hit (p := p) (l := d) (by omega)
    rw [h2] at h1
    cases h1
  · exact hge
theorem findIdxN_at {p : Nm → Bool} {d : List Nm} {j : Nat} (hj : j < d.length) (hp : p d[j] = true) : d.findIdx p ≤ j := by
  rcases Nat.lt_or_ge j (d.findIdx p) with hlt | hge
  · have h1 := List.not_of_lt_findIdx hlt
    simp only [hp] at h1
    exact absurd h1 (by simp)
  · exact hge

set_option maxRecDepth 100000 in
set_option maxHeartbeats 4000000 in
theorem IndexFuncN_any (P : Nat → Prop) (g : Nat) (lb : Array Value) (p : Nm → Bool) (eg : Ent g) (d : List Nm) (q : Option Addr) (c : Nat) (w : World) (hl : NmR P w q d) (hp : AsksN g lb p w) (X : Int) (hX : X = idxN p d) :
    Calls Try.prog 56 #[.slice q d.length c, .func (.func g) #[] lb] w fun e w' => e = .returned (.int .i64 X) ∧ Kept w w' := by
  have HL := Lib.hid hl
  have HP := Lib.hid hp
  have HX := Lib.hid hX
  have hb := hl.len
  unfold maxLen at hb
  have EG := Lib.hid eg
  unfold Ent at eg
  clear hl hp hX
  go_enter Try.func56, Try.ntmps56
  go_wp2_with fail
  go_loopg [8] (d.length) (fun m a wr => ∃ j : Nat, m = d.length - j ∧ j ≤ d.length ∧ a = .int .i64 j ∧ Kept w wr ∧ Hid (∀ i (hi : i < j) (hd : i < d.length), p d[i] = false))
  case atStart => exact ⟨0, by omega, Nat.zero_le _, rfl, Kept.refl w, Lib.hid (fun i hi => absurd hi (Nat.not_lt_zero _))⟩
  case round =>
    obtain ⟨j, hm, hj, rfl, hk, HN⟩ := hrel
    have HK := Lib.hid hk
    clear hk
    by_cases hlt : j < d.length
    · obtain ⟨b, off, ⟨p', c', q', e'⟩, hq, hPb, hbl, hx, z0, z1, y0, y1, y2, y3, y4, y5⟩ := (HL.out.kept HK.out).at' j hlt
      subst hq
      obtain ⟨x, hxe⟩ : ∃ x, d[j] = x := ⟨_, rfl⟩
      rw [hxe] at z0 z1 y0 y1 y2 y3 y4 y5
      have CG := HP.out x ⟨p', c', q', e'⟩ wr HK.out
      unfold nmV at CG
      simp only [] at CG y4 y5
      have CG1 := Lib.hid CG
      have HXE := Lib.hid hxe
      clear CG hxe hx hPb
      cases hpx : p x
      · rw [hpx] at CG1
        go_wp2_with (go_at_fn g; refine CG1.out.mono ?_; rintro en w4 ⟨rfl, hk4⟩)
        have HK4 := Lib.hid (HK.out.trans (by assumption))
        go_roundg (d.length - (j + 1))
        case measure => omega
        case rel =>
          refine ⟨j + 1, rfl, by omega, by go_num, HK4.out, Lib.hid fun i hi hd => ?_⟩
          by_cases e : i < j
          · exact HN.out i e hd
          · obtain rfl : i = j := by omega
            rw [HXE.out]; exact hpx
      · rw [hpx] at CG1
        have hfi : d.findIdx p = j := by
          have h1 := findIdxN_le hlt (fun i hi => HN.out i hi (by omega))
          have h2 : d.findIdx p ≤ j := findIdxN_at hlt (by rw [HXE.out]; exact hpx)
          omega
        have HV := Lib.hid (show ((j : Nat) : Int) = X by rw [HX.out, idxN, hfi, if_pos hlt])
        clear hfi
        go_wp2_with (go_at_fn g; refine CG1.out.mono ?_; rintro en w4 ⟨rfl, hk4⟩)
        go_ret
        exact ⟨ret_int HV.out, HK.out.trans (by assumption)⟩
    · obtain rfl : j = d.length := by omega
      have HV := Lib.hid (show (-1 : Int) = X by
        rw [HX.out, idxN, if_neg]
        intro h
        have := HN.out _ h h
        rw [idx_hit h] at this
        cases this)
      go_wp2_with fail
      go_ret
      exact ⟨ret_int HV.out, HK.out⟩

theorem ent_place1 : Ent 57 := Go.Proofs.enters_of Try.func57 (by kernel_rfl) rfl

theorem place1_asks (n : Int) (kb : Nat) (w : World) (hk : Blk w kb #[.int .i64 n] 3) : AsksN 57 #[.pointer (some ⟨kb, 0, none⟩)] (eqN n) w := by
  intro x h wx hkx
  have hc := (hk.kept hkx).cell 0
  have hz := (hk.kept hkx).lt
  simp at hc
  clear hk hkx
  obtain ⟨xn, xg, xo⟩ := x
  unfold nmV eqN
  simp only []
  show Calls Try.prog 57 #[.agg #[.int .i64 xn, .int .i64 xg, .int .i64 xo.k, .int .i64 xo.n, .int .i64 xo.f, .string xo.s, .slice h.p xo.l.length h.c, .slice h.q xo.d.length h.e], .pointer (some ⟨kb, 0, none⟩)] wx _
  go_enter Try.func57, Try.ntmps57
  go_wp2_with fail
  go_ret
  exact ⟨rfl, (Kept.refl wx).alloc _ _⟩

theorem splace_any (P : Nat → Prop) (l : List Nm) (p : Option Addr) (c : Nat) (n : Int) (w : World) (h : NmR P w p l) (X : Int) (hX : X = idxN (eqN n) l) :
    Calls Try.prog 49 #[.slice p l.length c, .int .i64 n] w fun e w' => e = .returned (.int .i64 X) ∧ Kept w w' := by
  have hmf : ∀ (fn : Fn) (first cap : Array Value) (w : World), (Instr.makeFunc fn first cap).run Try.prog w = .ok (.func fn first cap) w := fun _ _ _ _ => rfl
  have k1 := (Kept.refl w).alloc #[.int .i64 n] 3
  have CI := Lib.hid (IndexFuncN_any P _ _ _ ent_place1 l p c _ (h.kept k1) (place1_asks n _ _ (Blk.fresh w _ _)) X hX)
  have K1 := Lib.hid k1
  clear h k1 hX
  go_enter Try.func49, Try.ntmps49
  go_wp2_with fail
  (with_reducible refine CI.out.mono ?_)
  rintro e w2 ⟨rfl, hk2⟩
  go_wp2_with fail
  go_ret
  exact ⟨rfl, K1.out.trans hk2⟩

theorem idxN_bd (p : Nm → Bool) (d : List Nm) : idxN p d < 0 ∨ ∃ i, i < d.length ∧ idxN p d = (i : Int) := by
  unfold idxN
  split
  · next h => exact .inr ⟨_, h, rfl⟩
  · exact .inl (by omega)
theorem find_no {l : List Nm} {n : Int} (h : idxN (eqN n) l < 0) : findV l n = nul := by
  rw [find_idx]
  unfold idxN at h
  split at h
  · omega
  · next hn => rw [dif_neg hn]
theorem find_yes {l : List Nm} {n : Int} {i : Nat} (hi : i < l.length) (h : idxN (eqN n) l = (i : Int)) : findV l n = l[i].o := by
  rw [find_idx]
  unfold idxN at h
  split at h
  · next hn =>
    rw [dif_pos hn]
    have e : l.findIdx (eqN n) = i := by omega
    simp only [e]
  · omega
/-- A file as a value. -/
def fileV (l : List Nm) (p : Option Addr) (c : Nat) (t : Ob) (h : Hd) : Value := .agg #[.slice p l.length c, .int .i64 t.k, .int .i64 t.n, .int .i64 t.f, .string t.s, .slice h.p t.l.length h.c, .slice h.q t.d.length h.e]

set_option maxRecDepth 100000 in
set_option maxHeartbeats 4000000 in
theorem Find_any (P : Nat → Prop) (l : List Nm) (p : Option Addr) (c : Nat) (t : Ob) (ht : Hd) (n : Int) (w : World) (h : NmR P w p l) :
    Calls Try.prog 37 #[fileV l p c t ht, .int .i64 n] w fun e w' => ∃ h', e = .returned (objV (findV l n) h') ∧ Kept w w' ∧ Lies (Cel P w') (findV l n) h' := by
  have HL := Lib.hid h.low
  have HB := Lib.hid (show l.length ≤ maxLen from h.len)
  obtain ⟨X, hX⟩ : ∃ X, X = idxN (eqN n) l := ⟨_, rfl⟩
  have HXX := Lib.hid hX
  have hbd := idxN_bd (eqN n) l
  rw [← hX] at hbd
  have HBD := Lib.hid hbd
  have H1 := Lib.hid (In.fresh' (k := w.heap.size + 1) (In.fresh (In.start w) #[.slice p l.length c, .int .i64 t.k, .int .i64 t.n, .int .i64 t.f, .string t.s, .slice ht.p t.l.length ht.c, .slice ht.q t.d.length ht.e] 46) nul6 27 (by simp))
  have CP := Lib.hid (fun W (k : Kept w W) => splace_any _ l p c n W (HL.out.kept k) X hX)
  clear h hX hbd
  unfold fileV
  go_enter Try.func37, Try.ntmps37
  go_wp2_with fail
  (with_reducible refine (CP.out _ (In.k H1.out)).mono ?_)
  rintro e w2 ⟨rfl, hk2⟩
  have H2 := Lib.hid (H1.out.kept hk2)
  have K2 := Lib.hid (In.k H2.out)
  have RM := Lib.hid (H2.out.mem List.mem_cons_self)
  obtain ⟨u0, u1, u2, u3, u4, u5⟩ := RM.out.cells6
  have uf := RM.out.free
  have uz := RM.out.lt
  have FM := Lib.hid (H2.out.mem (List.mem_cons_of_mem _ List.mem_cons_self))
  obtain ⟨f0, f1, f2, f3, f4, f5, f6⟩ := FM.out.cells7
  have fz := FM.out.lt
  clear hk2 H1
  rcases HBD.out with hneg | ⟨i, hi, rfl⟩
  · have HG := Lib.hid (show findV l n = nul from find_no (by rw [← HXX.out]; exact hneg))
    go_wp2_with fail
    refine bodyPost_ret (v := .agg nul6) ?_ rfl ⟨Hd.none, by rw [HG.out]; rfl, ?_, by rw [HG.out]; exact Lies.flat _ _ _ _ _ _ (Nat.zero_le _)⟩
    · simp [results, Try.results37, go_sem, u0, u1, u2, u3, u4, u5]
    · repeat (with_reducible first | exact K2.out | refine Kept.drew ?_ | refine Kept.alloc ?_ _ _ | refine Kept.set ?_ (by omega) _)
  · obtain ⟨b, off, ⟨p', c', q', e'⟩, hpp, hPb, hbl, hx, z0, z1, y0, y1, y2, y3, y4, y5⟩ := (HL.out.kept K2.out).at' i hi
    subst hpp
    have HG := Lib.hid (show findV l n = l[i].o from find_yes hi HXX.out.symm)
    obtain ⟨x, hxe⟩ : ∃ x, l[i].o = x := ⟨_, rfl⟩
    rw [hxe] at y0 y1 y2 y3 y4 y5 hx HG
    have XL := Lib.hid hx
    have NB := Lib.hid hPb
    have NK := Lib.hid (show ∀ b, (P b ∧ b < w.heap.size) → b ≠ w.heap.size + 1 from fun b hb => by omega)
    have hlb := HB.out
    unfold maxLen at hlb
    have i1 : (i : Int) < (l.length : Int) := by omega
    simp only [] at y4 y5
    clear hxe hx hPb z0 z1
    go_wp2_with fail
    refine bodyPost_ret (v := .agg #[.int .i64 x.k, .int .i64 x.n, .int .i64 x.f, .string x.s, .slice p' x.l.length c', .slice q' x.d.length e']) ?_ rfl ⟨⟨p', c', q', e'⟩, by rw [HG.out]; rfl, ?_, ?_⟩
    · simp [results, Try.results37, go_sem, u0, u1, u2, u3, u4, u5]
    · repeat (with_reducible first | exact K2.out | refine Kept.drew ?_ | refine Kept.alloc ?_ _ _ | refine Kept.set ?_ (by omega) _)
    · rw [HG.out]
      refine Lies.weak (P := fun b => P b ∧ b < w.heap.size) ?_ (fun b hb => hb.1)
      repeat (with_reducible first | exact XL.out | refine Lies.set ?_ NK.out _ | refine Lies.alloc ?_ _)

end Go.Proofs.Ytakbhdhlcnpejaa

namespace Go.Proofs.Ytakbhdhlcnpejaa
open Go.RowKit Cx Sx
set_option linter.unusedSimpArgs false
set_option linter.unusedVariables false

set_option maxRecDepth 100000 in
set_option maxHeartbeats 4000000 in
theorem Resolve_any (P : Nat → Prop) (l : List Nm) (p : Option Addr) (c : Nat) (t : Ob) (ht : Hd) (o : Ob) (ho : Hd) (w : World) (h : NmR P w p l) (hl : Lies (Cel P w) o ho) (X : Int × Ob) (hX : X = resV l o) :
    Calls Try.prog 22 #[fileV l p c t ht, objV o ho] w fun e w' => ∃ h', e = .returned (.tuple #[objV X.2 h', .int .i64 X.1]) ∧ Kept w w' ∧ Lies (Cel P w') X.2 h' := by
  have HL := Lib.hid h.low
  have HX := Lib.hid hX
  have HO := Lib.hid (show Lies (Cel (fun b => P b ∧ b < w.heap.size) w) o ho from hl.keep fun b hb hlt => ⟨⟨hb, hlt⟩, rfl⟩)
  clear h hl hX
  obtain ⟨op, oc, oq, oe⟩ := ho
  have H1 := Lib.hid (In.fresh' (k := w.heap.size + 1) (In.fresh (In.start w) #[.slice p l.length c, .int .i64 t.k, .int .i64 t.n, .int .i64 t.f, .string t.s, .slice ht.p t.l.length ht.c, .slice ht.q t.d.length ht.e] 46) #[.int .i64 o.k, .int .i64 o.n, .int .i64 o.f, .string o.s, .slice op o.l.length oc, .slice oq o.d.length oe] 27 (by simp))
  have H2 := Lib.hid (In.fresh' (k := w.heap.size + 1 + 1) H1.out nul6 27 (by simp))
  have H3 := Lib.hid (show In w [(w.heap.size + 1, #[.int .i64 o.k, .int .i64 o.n, .int .i64 o.f, .string o.s, .slice op o.l.length oc, .slice oq o.d.length oe], 27), (w.heap.size + 1 + 1, nul6, 27), (w.heap.size, #[.slice p l.length c, .int .i64 t.k, .int .i64 t.n, .int .i64 t.f, .string t.s, .slice ht.p t.l.length ht.c, .slice ht.q t.d.length ht.e], 46)] (((w.alloc (.cells #[.slice p l.length c, .int .i64 t.k, .int .i64 t.n, .int .i64 t.f, .string t.s, .slice ht.p t.l.length ht.c, .slice ht.q t.d.length ht.e] 46)).alloc (.cells #[.int .i64 o.k, .int .i64 o.n, .int .i64 o.f, .string o.s, .slice op o.l.length oc, .slice oq o.d.length oe] 27)).alloc (.cells nul6 27)) from
    ⟨H2.out.1, fun x hx => H2.out.2 x (by simp only [List.mem_cons, List.not_mem_nil, or_false] at hx ⊢; rcases hx with h | h | h <;> simp [h])⟩)
  have NK := Lib.hid (show ∀ b, (P b ∧ b < w.heap.size) → b ≠ w.heap.size + 1 + 1 from fun b hb => by omega)
  have NO := Lib.hid (show ∀ b, (P b ∧ b < w.heap.size) → b ≠ w.heap.size + 1 from fun b hb => by omega)
  unfold fileV objV
  simp only []
  go_enter Try.func22, Try.ntmps22
  go_wp2_with fail
  go_loopg [6] 65 (fun m i wr => ∃ (j : Nat) (x : Ob) (xp : Option Addr) (xc : Nat) (xq : Option Addr) (xe : Nat), m = 65 - j ∧ j ≤ 64 ∧ i = .int .i64 j ∧ Hid (stepsV (64 - j) l x = stepsV 64 l o) ∧ In w [(w.heap.size + 1, #[.int .i64 x.k, .int .i64 x.n, .int .i64 x.f, .string x.s, .slice xp x.l.length xc, .slice xq x.d.length xe], 27), (w.heap.size + 1 + 1, nul6, 27), (w.heap.size, #[.slice p l.length c, .int .i64 t.k, .int .i64 t.n, .int .i64 t.f, .string t.s, .slice ht.p t.l.length ht.c, .slice ht.q t.d.length ht.e], 46)] wr ∧ Lies (Cel (fun b => P b ∧ b < w.heap.size) wr) x ⟨xp, xc, xq, xe⟩)
  case atStart => exact ⟨0, o, op, oc, oq, oe, rfl, Nat.zero_le _, rfl, Lib.hid rfl, H3.out, ((HO.out.alloc _).alloc _).alloc _⟩
  case round =>
    obtain ⟨j, x, xp, xc, xq, xe, hm, hj, rfl, HS, hin, hlx⟩ := hrel
    have HI := Lib.hid hin
    have KI := Lib.hid (In.k hin)
    have LX := Lib.hid hlx
    have OM := Lib.hid (hin.mem List.mem_cons_self)
    have RM := Lib.hid (hin.mem (List.mem_cons_of_mem _ List.mem_cons_self))
    have FM := Lib.hid (hin.mem (List.mem_cons_of_mem _ (List.mem_cons_of_mem _ List.mem_cons_self)))
    obtain ⟨o0, o1, o2, o3, o4, o5⟩ := OM.out.cells6
    have of_ := OM.out.free
    have oz := OM.out.lt
    obtain ⟨u0, u1, u2, u3, u4, u5⟩ := RM.out.cells6
    have uf := RM.out.free
    have uz := RM.out.lt
    obtain ⟨f0, f1, f2, f3, f4, f5, f6⟩ := FM.out.cells7
    have fz := FM.out.lt
    clear hin hlx H1 H2 H3
    by_cases hlt : j < 64
    · by_cases hk : x.k = 7
      · have hkb : (x.k != 7) = false := by rw [hk]; rfl
        have HS2 := Lib.hid (show stepsV (64 - (j + 1)) l (findV l x.n) = stepsV 64 l o by
          rw [← HS.out, show 64 - j = (64 - (j + 1)) + 1 by omega, stepsV, if_pos hk])
        have CF := Lib.hid (Find_any _ l p c t ht x.n wr (HL.out.kept KI.out))
        unfold fileV at CF
        obtain ⟨y, hy⟩ : ∃ y, y = findV l x.n := ⟨_, rfl⟩
        rw [← hy] at CF HS2
        clear HS hk hy
        go_wp2_with fail
        (with_reducible refine CF.out.mono ?_)
        rintro e w3 ⟨⟨yp, yc, yq, ye⟩, rfl, hk3, hl3⟩
        have H3 := Lib.hid (HI.out.kept hk3)
        have L3 := Lib.hid hl3
        have B3 := Lib.hid (OM.out.kept hk3)
        unfold objV
        simp only []
        clear hk3 hl3 o0 o1 o2 o3 o4 o5 of_ oz u0 u1 u2 u3 u4 u5 uf uz f0 f1 f2 f3 f4 f5 f6 fz
        obtain ⟨o0, o1, o2, o3, o4, o5⟩ := B3.out.cells6
        have bf := B3.out.free
        have bz := B3.out.lt
        go_wp2_with fail
        go_roundg (65 - (j + 1))
        case measure => omega
        case rel =>
          refine ⟨j + 1, y, yp, yc, yq, ye, rfl, by omega, by go_num, HS2, ?_, ?_⟩
          · exact In.set6 H3.out.tail B3.out (Nat.le_succ _) (fun x hx => by
              simp only [List.mem_cons, List.not_mem_nil, or_false] at hx
              rcases hx with rfl | rfl <;> simp) _ _ _ _ _ _
          · repeat (with_reducible first | exact L3.out | refine Lies.set ?_ NO.out _ | refine Lies.alloc ?_ _)
      · have hkb : (x.k != 7) = true := by simpa using hk
        have HV := Lib.hid (show X = (0, x) by
          rw [HX.out, resV, ← HS.out, steps_stop hk, if_neg hk])
        clear HS hk
        go_wp2_with fail
        refine bodyPost_ret (v := .tuple #[.agg #[.int .i64 x.k, .int .i64 x.n, .int .i64 x.f, .string x.s, .slice xp x.l.length xc, .slice xq x.d.length xe], .int .i64 0]) ?_ rfl ⟨⟨xp, xc, xq, xe⟩, by rw [HV.out]; first | done | rfl, ?_, ?_⟩
        · simp [results, Try.results22, go_sem, u0, u1, u2, u3, u4, u5]
        · repeat (with_reducible first | exact KI.out | refine Kept.drew ?_ | refine Kept.alloc ?_ _ _ | refine Kept.set ?_ (by omega) _)
        · rw [HV.out]
          refine Lies.weak (P := fun b => P b ∧ b < w.heap.size) ?_ (fun b hb => hb.1)
          repeat (with_reducible first | exact LX.out | refine Lies.set ?_ NK.out _ | refine Lies.alloc ?_ _)
    · obtain rfl : j = 64 := by omega
      have HS3 := Lib.hid (show stepsV 64 l o = x from HS.out.symm)
      by_cases hk : x.k = 7
      · have hkb : (x.k == 7) = true := by rw [hk]; rfl
        have HV := Lib.hid (show X = (7, nul) by rw [HX.out, resV, HS3.out, if_pos hk])
        clear HS hk HS3
        go_wp2_with fail
        refine bodyPost_ret (v := .tuple #[.agg nul6, .int .i64 7]) ?_ rfl ⟨Hd.none, by rw [HV.out]; rfl, ?_, by rw [HV.out]; exact Lies.flat _ _ _ _ _ _ (Nat.zero_le _)⟩
        · simp [results, Try.results22, go_sem, u0, u1, u2, u3, u4, u5]
        · repeat (with_reducible first | exact KI.out | refine Kept.drew ?_ | refine Kept.alloc ?_ _ _ | refine Kept.set ?_ (by omega) _)
      · have hkb : (x.k == 7) = false := by simpa using hk
        have HV := Lib.hid (show X = (0, x) by rw [HX.out, resV, HS3.out, if_neg hk])
        clear HS hk HS3
        go_wp2_with fail
        refine bodyPost_ret (v := .tuple #[.agg #[.int .i64 x.k, .int .i64 x.n, .int .i64 x.f, .string x.s, .slice xp x.l.length xc, .slice xq x.d.length xe], .int .i64 0]) ?_ rfl ⟨⟨xp, xc, xq, xe⟩, by rw [HV.out]; first | done | rfl, ?_, ?_⟩
        · simp [results, Try.results22, go_sem, u0, u1, u2, u3, u4, u5]
        · repeat (with_reducible first | exact KI.out | refine Kept.drew ?_ | refine Kept.alloc ?_ _ _ | refine Kept.set ?_ (by omega) _)
        · rw [HV.out]
          refine Lies.weak (P := fun b => P b ∧ b < w.heap.size) ?_ (fun b hb => hb.1)
          repeat (with_reducible first | exact LX.out | refine Lies.set ?_ NK.out _ | refine Lies.alloc ?_ _)

end Go.Proofs.Ytakbhdhlcnpejaa

namespace Go.Proofs.Ytakbhdhlcnpejaa
open Go.RowKit Cx Sx
set_option linter.unusedSimpArgs false
set_option linter.unusedVariables false

set_option maxRecDepth 100000 in
set_option maxHeartbeats 4000000 in
theorem Entry_any (P : Nat → Prop) (l : List Nm) (p : Option Addr) (c : Nat) (t : Ob) (ht : Hd) (o : Ob) (ho : Hd) (key : ByteArray) (w : World) (h : NmR P w p l) (hl : Lies (Cel P w) o ho) (X : Int × Ob) (hX : X = entryV l o key) :
    Calls Try.prog 23 #[fileV l p c t ht, objV o ho, .string key] w fun e w' => ∃ h', e = .returned (.tuple #[objV X.2 h', .int .i64 X.1]) ∧ Kept w w' ∧ Lies (Cel P w') X.2 h' := by
  have HL := Lib.hid h.low
  have HX := Lib.hid hX
  have HO := Lib.hid (show Lies (Cel (fun b => P b ∧ b < w.heap.size) w) o ho from hl.keep fun b hb hlt => ⟨⟨hb, hlt⟩, rfl⟩)
  clear h hl hX
  obtain ⟨op, oc, oq, oe⟩ := ho
  have H1 := Lib.hid (In.fresh' (k := w.heap.size + 1) (In.fresh (In.start w) #[.slice p l.length c, .int .i64 t.k, .int .i64 t.n, .int .i64 t.f, .string t.s, .slice ht.p t.l.length ht.c, .slice ht.q t.d.length ht.e] 46) #[.int .i64 o.k, .int .i64 o.n, .int .i64 o.f, .string o.s, .slice op o.l.length oc, .slice oq o.d.length oe] 27 (by simp))
  have H2 := Lib.hid (In.fresh' (k := w.heap.size + 1 + 1) H1.out nul6 27 (by simp))
  have NK := Lib.hid (show ∀ b, (P b ∧ b < w.heap.size) → b ≠ w.heap.size + 1 + 1 from fun b hb => by omega)
  obtain ⟨Y, hY⟩ : ∃ Y, Y = resV l o := ⟨_, rfl⟩
  have CR := Lib.hid (Resolve_any _ l p c t ht o ⟨op, oc, oq, oe⟩ _ (HL.out.kept (In.k H2.out)) (HO.out.kept (In.k H2.out)) Y hY)
  have HXY := Lib.hid (show X = if Y.1 = 0 then resV l (Cx.get Y.2 key) else (Y.1, nul) by rw [HX.out, entryV, ← hY])
  clear hY HX
  obtain ⟨er, y⟩ := Y
  unfold fileV objV at CR
  unfold fileV objV
  simp only [] at CR HXY ⊢
  go_enter Try.func23, Try.ntmps23
  go_wp2_with fail
  (with_reducible refine CR.out.mono ?_)
  rintro e w2 ⟨⟨yp, yc, yq, ye⟩, rfl, hk2, hl2⟩
  have H3 := Lib.hid (In.fresh (H2.out.kept hk2) #[.int .i64 y.k, .int .i64 y.n, .int .i64 y.f, .string y.s, .slice yp y.l.length yc, .slice yq y.d.length ye] 27)
  have HSZ := Lib.hid (show w.heap.size + 1 + 1 < w2.heap.size from ((H2.out.kept hk2).mem List.mem_cons_self).lt)
  have L3 := Lib.hid (hl2.alloc (.cells #[.int .i64 y.k, .int .i64 y.n, .int .i64 y.f, .string y.s, .slice yp y.l.length yc, .slice yq y.d.length ye] 27))
  have K3 := Lib.hid (In.k H3.out)
  have RM := Lib.hid (H3.out.mem (List.mem_cons_of_mem _ List.mem_cons_self))
  obtain ⟨u0, u1, u2, u3, u4, u5⟩ := RM.out.cells6
  have uf := RM.out.free
  have uz := RM.out.lt
  clear hk2 hl2 H1 H2 CR
  simp only []
  by_cases he : er = 0
  · subst he
    have HV := Lib.hid (show X = resV l (Cx.get y key) by rw [HXY.out, if_pos rfl])
    have FM := Lib.hid (H3.out.mem (List.mem_cons_of_mem _ (List.mem_cons_of_mem _ (List.mem_cons_of_mem _ List.mem_cons_self))))
    have YM := Lib.hid (H3.out.mem List.mem_cons_self)
    go_wp2_with fail
    obtain ⟨YB, hYB⟩ : ∃ YB, YB = w2.heap.size := ⟨_, rfl⟩
    obtain ⟨W3, hW3⟩ : ∃ W3, W3 = w2.alloc (.cells #[.int .i64 y.k, .int .i64 y.n, .int .i64 y.f, .string y.s, .slice yp y.l.length yc, .slice yq y.d.length ye] 27) := ⟨_, rfl⟩
    rw [← hW3, ← hYB]
    rw [← hW3, ← hYB] at YM H3
    rw [← hW3] at FM L3 K3 RM uf uz u0 u1 u2 u3 u4 u5
    have hfw : w.heap.size + 1 + 1 ≠ w.heap.size := by omega
    have hyw : w.heap.size + 1 + 1 ≠ YB := by rw [hYB]; exact Nat.ne_of_lt HSZ.out
    have CG := Lib.hid (fun W (k : Kept W3 W) => cosGet_any _ y ⟨yp, yc, yq, ye⟩ key W (L3.out.kept k))
    unfold objV at CG
    simp only [] at CG
    obtain ⟨z, hz⟩ : ∃ z, z = Cx.get y key := ⟨_, rfl⟩
    rw [← hz] at CG HV
    have CR2 := Lib.hid (fun W (zh : Hd) (k : Kept w W) (hlz : Lies (Cel (fun b => P b ∧ b < w.heap.size) W) z zh) => Resolve_any _ l p c t ht z zh W (HL.out.kept k) hlz X HV.out)
    unfold fileV objV at CR2
    clear hz hYB hW3 u0 u1 u2 u3 u4 u5 uf uz HSZ HV
    obtain ⟨f0, f1, f2, f3, f4, f5, f6⟩ := (H3.out.mem (List.mem_cons_of_mem _ (List.mem_cons_of_mem _ (List.mem_cons_of_mem _ List.mem_cons_self)))).cells7
    obtain ⟨y0, y1, y2, y3, y4, y5⟩ := (H3.out.mem List.mem_cons_self).cells6
    obtain ⟨u0, u1, u2, u3, u4, u5⟩ := (H3.out.mem (List.mem_cons_of_mem _ List.mem_cons_self)).cells6
    have uf := (H3.out.mem (List.mem_cons_of_mem _ List.mem_cons_self)).free
    have uz := (H3.out.mem (List.mem_cons_of_mem _ List.mem_cons_self)).lt
    go_region_held3 (fun w' => w'.cell? ⟨w.heap.size, 0, none⟩ = some (.slice p l.length c) ∧ w'.cell? ⟨w.heap.size, 1, none⟩ = some (.int .i64 t.k) ∧ w'.cell? ⟨w.heap.size, 2, none⟩ = some (.int .i64 t.n) ∧ w'.cell? ⟨w.heap.size, 3, none⟩ = some (.int .i64 t.f) ∧ w'.cell? ⟨w.heap.size, 4, none⟩ = some (.string t.s) ∧ w'.cell? ⟨w.heap.size, 5, none⟩ = some (.slice ht.p t.l.length ht.c) ∧ w'.cell? ⟨w.heap.size, 6, none⟩ = some (.slice ht.q t.d.length ht.e) ∧ w'.cell? ⟨YB, 0, none⟩ = some (.int .i64 y.k) ∧ w'.cell? ⟨YB, 1, none⟩ = some (.int .i64 y.n) ∧ w'.cell? ⟨YB, 2, none⟩ = some (.int .i64 y.f) ∧ w'.cell? ⟨YB, 3, none⟩ = some (.string y.s) ∧ w'.cell? ⟨YB, 4, none⟩ = some (.slice yp y.l.length yc) ∧ w'.cell? ⟨YB, 5, none⟩ = some (.slice yq y.d.length ye)) (go_keep)
      (first
        | (go_at_call 38; (first | (with_reducible refine (CG.out _ (Kept.refl _)).mono ?_) | (with_reducible refine (CG.out _ (Kept.refl _).drew).mono ?_)); rintro e wg ⟨⟨zp, zc, zq, ze⟩, rfl, hkg, hlg⟩; (have KG := Lib.hid (show Kept W3 wg from by first | exact hkg | exact ((Kept.refl _).drew).trans hkg)); (have LG := Lib.hid hlg); clear hkg hlg; (have H4 := Lib.hid (H3.out.kept KG.out)); (clear u0 u1 u2 u3 u4 u5 uf uz f0 f1 f2 f3 f4 f5 f6 y0 y1 y2 y3 y4 y5); obtain ⟨f0, f1, f2, f3, f4, f5, f6⟩ := (H4.out.mem (List.mem_cons_of_mem _ (List.mem_cons_of_mem _ (List.mem_cons_of_mem _ List.mem_cons_self)))).cells7; obtain ⟨y0, y1, y2, y3, y4, y5⟩ := (H4.out.mem List.mem_cons_self).cells6; obtain ⟨u0, u1, u2, u3, u4, u5⟩ := (H4.out.mem (List.mem_cons_of_mem _ List.mem_cons_self)).cells6; have uf := (H4.out.mem (List.mem_cons_of_mem _ List.mem_cons_self)).free; have uz := (H4.out.mem (List.mem_cons_of_mem _ List.mem_cons_self)).lt; simp only [])
        | (go_at_call 22; (first | (with_reducible refine (CR2.out _ ⟨zp, zc, zq, ze⟩ (In.k H4.out) LG.out).mono ?_) | (with_reducible refine (CR2.out _ ⟨zp, zc, zq, ze⟩ (In.k H4.out).drew LG.out.drew).mono ?_)); rintro e wr ⟨⟨xp, xc, xq, xe⟩, rfl, hkr, hlr⟩; (have H5 := Lib.hid (show In w _ wr from by first | exact H4.out.kept hkr | exact H4.out.drew.kept hkr)); (have LR := Lib.hid hlr); clear hkr hlr; (clear u0 u1 u2 u3 u4 u5 uf uz f0 f1 f2 f3 f4 f5 f6 y0 y1 y2 y3 y4 y5); obtain ⟨f0, f1, f2, f3, f4, f5, f6⟩ := (H5.out.mem (List.mem_cons_of_mem _ (List.mem_cons_of_mem _ (List.mem_cons_of_mem _ List.mem_cons_self)))).cells7; obtain ⟨y0, y1, y2, y3, y4, y5⟩ := (H5.out.mem List.mem_cons_self).cells6; obtain ⟨u0, u1, u2, u3, u4, u5⟩ := (H5.out.mem (List.mem_cons_of_mem _ List.mem_cons_self)).cells6; have uf := (H5.out.mem (List.mem_cons_of_mem _ List.mem_cons_self)).free; have uz := (H5.out.mem (List.mem_cons_of_mem _ List.mem_cons_self)).lt; simp only []))
    all_goals
      go_wp2_with fail
      refine bodyPost_ret (v := .tuple #[.agg #[.int .i64 X.2.k, .int .i64 X.2.n, .int .i64 X.2.f, .string X.2.s, .slice xp X.2.l.length xc, .slice xq X.2.d.length xe], .int .i64 X.1]) ?_ rfl ⟨⟨xp, xc, xq, xe⟩, rfl, ?_, ?_⟩
      · simp [results, Try.results23, go_sem, u0, u1, u2, u3, u4, u5]
      · have K5 := Lib.hid (In.k H5.out)
        repeat (with_reducible first | exact K5.out | refine Kept.drew ?_ | refine Kept.drewN ?_ _ | refine Kept.alloc ?_ _ _ | refine Kept.set ?_ (by omega) _)
      · refine Lies.weak (P := fun b => P b ∧ b < w.heap.size) ?_ (fun b hb => hb.1)
        repeat (with_reducible first | exact LR.out | refine Lies.drew ?_ | refine Lies.set ?_ NK.out _ | refine Lies.alloc ?_ _)
  · have HV := Lib.hid (show X = (er, nul) by rw [HXY.out, if_neg he])
    have hne : (er != 0) = true := by simpa using he
    clear HXY he
    go_wp2_with fail
    refine bodyPost_ret (v := .tuple #[.agg nul6, .int .i64 er]) ?_ rfl ⟨Hd.none, by rw [HV.out]; first | done | rfl, ?_, by rw [HV.out]; exact Lies.flat _ _ _ _ _ _ (Nat.zero_le _)⟩
    · simp [results, Try.results23, go_sem, u0, u1, u2, u3, u4, u5]
    · repeat (with_reducible first | exact K3.out | refine Kept.drew ?_ | refine Kept.alloc ?_ _ _ | refine Kept.set ?_ (by omega) _)

end Go.Proofs.Ytakbhdhlcnpejaa
