/-
  slices.IndexFunc over entries, whatever is asked of each; what package cos's Get answers.
-/
import Derived.Test.YtakbhdhlcnpejaaCosCount
import Derived.Test.YtakbhdhlcnpejaaCosObject
namespace Go.Proofs.Ytakbhdhlcnpejaa
open Go.RowKit Cx

/-- A question on an entry that turns nothing that was there. -/
def AsksE (g : Nat) (lb : Array Value) (p : Entr → Bool) (w : World) : Prop :=
  ∀ (e : Entr) (h : Hd) (wx : World), Kept w wx → Calls Try.prog g (#[entV e h] ++ lb) wx fun en w' => en = .returned (.bool (p e)) ∧ Kept wx w'
/-- The place of the first entry that fits; -1. -/
def idxE (p : Entr → Bool) (d : List Entr) : Int := if d.findIdx p < d.length then (d.findIdx p : Int) else -1
def dictO (d : List Entr) : Ob := .mk 6 0 0 ⟨#[]⟩ [] d

theorem Lies.entsOnly {R : Cells} {o : Ob} {h : Hd} (hl : Lies R o h) : Lies R (dictO o.d) ⟨none, 0, h.q, h.e⟩ := by
  cases hl with
  | mk k n f s l d h H E hk hl hlc hd hds hdc =>
    exact .mk 6 0 0 ⟨#[]⟩ [] d ⟨none, 0, h.q, h.e⟩ H E ⟨Nat.zero_le _, hk.2.1, Nat.zero_le _⟩ (fun _ hi => absurd hi (Nat.not_lt_zero _)) (fun _ hi => absurd hi (Nat.not_lt_zero _)) hd hds hdc
theorem find_hit {p : Entr → Bool} {d : List Entr} (h : d.findIdx p < d.length) : p d[d.findIdx p] = true := List.findIdx_getElem (w := h)
theorem findIdx_le {p : Entr → Bool} {d : List Entr} {j : Nat} (hj : j < d.length) (h : ∀ i (hi : i < j), p (d[i]'(by omega)) = false) : j ≤ d.findIdx p := by
  rcases Nat.lt_or_ge (d.findIdx p) j with hlt | hge
  · have h1 := h _ hlt
    have h2 := find_hit (p := p) (d := d) (by omega)
    rw [h2] at h1
    cases h1
  · exact hge
theorem findIdx_at {p : Entr → Bool} {d : List Entr} {j : Nat} (hj : j < d.length) (hp : p d[j] = true) : d.findIdx p ≤ j := by
  rcases Nat.lt_or_ge j (d.findIdx p) with hlt | hge
  · have h1 := List.not_of_lt_findIdx hlt
    simp only [hp] at h1
    exact absurd h1 (by simp)
  · exact hge

set_option maxRecDepth 100000 in
set_option maxHeartbeats 4000000 in
theorem IndexFunc_any (P : Nat → Prop) (g : Nat) (lb : Array Value) (p : Entr → Bool) (eg : Ent g) (d : List Entr) (q : Option Addr) (c : Nat) (w : World) (hl : Lies (Cel P w) (dictO d) ⟨none, 0, q, c⟩) (hp : AsksE g lb p w) (X : Int) (hX : X = idxE p d) :
    Calls Try.prog 51 #[.slice q d.length c, .func (.func g) #[] lb] w fun e w' => e = .returned (.int .i64 X) ∧ Kept w w' := by
  have HL := Lib.hid hl
  have HP := Lib.hid hp
  have HX := Lib.hid hX
  have hb := hl.bounds.2.1
  simp only [dictO, Ob.d] at hb
  unfold maxLen at hb
  have EG := Lib.hid eg
  unfold Ent at eg
  clear hl hp hX
  go_enter Try.func51, Try.ntmps51
  go_wp2_with fail
  go_loopg [8] (d.length) (fun m a wr => ∃ j : Nat, m = d.length - j ∧ j ≤ d.length ∧ a = .int .i64 j ∧ Kept w wr ∧ Hid (∀ i (hi : i < j) (hd : i < d.length), p d[i] = false))
  case atStart => exact ⟨0, by omega, Nat.zero_le _, rfl, Kept.refl w, Lib.hid (fun i hi => absurd hi (Nat.not_lt_zero _))⟩
  case round =>
    obtain ⟨j, hm, hj, rfl, hk, HN⟩ := hrel
    have HK := Lib.hid hk
    clear hk
    by_cases hlt : j < d.length
    · obtain ⟨key, x, b, off, ⟨p', c', q', e'⟩, hxe, hq, hPb, hbl, hx, hks, z0, y0, y1, y2, y3, y4, y5⟩ := (HL.out.kept HK.out).entry j hlt
      simp only [dictO, Ob.d] at hxe
      simp only [] at hq
      subst hq
      have CG := HP.out (key, x) ⟨p', c', q', e'⟩ wr HK.out
      unfold entV at CG
      simp only [] at CG y4 y5
      have CG1 := Lib.hid CG
      have HXE := Lib.hid hxe
      clear CG hxe hx hPb
      cases hpx : p (key, x)
      · rw [hpx] at CG1
        go_wp2_with (go_at_fn g; refine CG1.out.mono ?_; rintro en w4 ⟨rfl, hk4⟩)
        have HK4 := Lib.hid (HK.out.trans (by assumption))
        go_roundg (d.length - (j + 1))
        case measure => omega
        case rel =>
          refine ⟨j + 1, rfl, by omega, by go_num, HK4.out, Lib.hid fun i hi hd => ?_⟩
          by_cases e : i < j
          · exact HN.out i e hd
          · obtain rfl : i = j := by omega
            rw [HXE.out]; exact hpx
      · rw [hpx] at CG1
        have hfi : d.findIdx p = j := by
          have h1 := findIdx_le hlt (fun i hi => HN.out i hi (by omega))
          have h2 : d.findIdx p ≤ j := findIdx_at hlt (by rw [HXE.out]; exact hpx)
          omega
        have HV := Lib.hid (show ((j : Nat) : Int) = X by rw [HX.out, idxE, hfi, if_pos hlt])
        clear hfi
        go_wp2_with (go_at_fn g; refine CG1.out.mono ?_; rintro en w4 ⟨rfl, hk4⟩)
        go_ret
        exact ⟨ret_int HV.out, HK.out.trans (by assumption)⟩
    · obtain rfl : j = d.length := by omega
      have HV := Lib.hid (show (-1 : Int) = X by
        rw [HX.out, idxE, if_neg]
        intro h
        have := HN.out _ h h
        rw [find_hit h] at this
        cases this)
      go_wp2_with fail
      go_ret
      exact ⟨ret_int HV.out, HK.out⟩

theorem ent_get1 : Ent 52 := Go.Proofs.enters_of Try.func52 (by kernel_rfl) rfl

theorem get1_asks (key : ByteArray) (kb : Nat) (w : World) (hk : Blk w kb #[.string key] 9) : AsksE 52 #[.pointer (some ⟨kb, 0, none⟩)] (fun e => keq e.1 key) w := by
  intro e h wx hkx
  have hc := (hk.kept hkx).cell 0
  have hz := (hk.kept hkx).lt
  simp at hc
  clear hk hkx
  obtain ⟨ek, x⟩ := e
  unfold entV keq
  simp only []
  show Calls Try.prog 52 #[.agg #[.string ek, .int .i64 x.k, .int .i64 x.n, .int .i64 x.f, .string x.s, .slice h.p x.l.length h.c, .slice h.q x.d.length h.e], .pointer (some ⟨kb, 0, none⟩)] wx _
  go_enter Try.func52, Try.ntmps52
  go_wp2_with fail
  go_ret
  exact ⟨rfl, (Kept.refl wx).alloc _ _⟩

theorem idxE_get (d : List Entr) (key : ByteArray) : (idxE (fun e => keq e.1 key) d < 0 → getD d key = nul) ∧ (∀ i (hi : i < d.length), idxE (fun e => keq e.1 key) d = (i : Int) → getD d key = d[i].2) := by
  unfold idxE
  induction d with
  | nil => exact ⟨fun _ => rfl, fun i hi => absurd hi (Nat.not_lt_zero _)⟩
  | cons e r ih =>
    rw [List.findIdx_cons, getD]
    cases hk : keq e.1 key
    · simp only [Bool.false_eq_true, if_false, cond_false, List.length_cons] at ih ⊢
      refine ⟨fun h => ih.1 ?_, fun i hi h => ?_⟩
      · split at h
        · omega
        · next hn => rw [if_neg (by omega)]; omega
      · split at h
        · next hy =>
          cases i with
          | zero => omega
          | succ i =>
            rw [List.getElem_cons_succ]
            exact ih.2 i (by omega) (by rw [if_pos (by omega)]; omega)
        · omega
    · simp only [cond_true, if_true, List.length_cons]
      refine ⟨fun h => ?_, fun i hi h => ?_⟩
      · rw [if_pos (by omega)] at h; omega
      · rw [if_pos (by omega)] at h
        obtain rfl : i = 0 := by omega
        rfl

theorem idxE_bd (p : Entr → Bool) (d : List Entr) : idxE p d < 0 ∨ ∃ i, i < d.length ∧ idxE p d = (i : Int) := by
  unfold idxE
  split
  · next h => exact .inr ⟨_, h, rfl⟩
  · exact .inl (by omega)

set_option maxRecDepth 100000 in
set_option maxHeartbeats 4000000 in
theorem cosGet_any (P : Nat → Prop) (o : Ob) (h : Hd) (key : ByteArray) (w : World) (hl : Lies (Cel P w) o h) :
    Calls Try.prog 38 #[objV o h, .string key] w fun e w' => ∃ h', e = .returned (objV (Cx.get o key) h') ∧ Kept w w' ∧ Lies (Cel P w') (Cx.get o key) h' := by
  have hmf : ∀ (fn : Fn) (first cap : Array Value) (w : World), (Instr.makeFunc fn first cap).run Try.prog w = .ok (.func fn first cap) w := fun _ _ _ _ => rfl
  have HL := Lib.hid (show Lies (Cel (fun b => P b ∧ b < w.heap.size) w) o h from hl.keep fun b hb hlt => ⟨⟨hb, hlt⟩, rfl⟩)
  have HE := Lib.hid (fun w b hb => hasEntries_any o h w b hb)
  obtain ⟨hp, hc, hq, he⟩ := h
  have HX := Lib.hid (In.fresh' (k := w.heap.size + 1 + 1) (In.fresh' (k := w.heap.size + 1) (In.fresh (In.start w) #[.int .i64 o.k, .int .i64 o.n, .int .i64 o.f, .string o.s, .slice hp o.l.length hc, .slice hq o.d.length he] 27) #[.string key] 9 (by simp)) nul6 27 (by simp))
  have HR := Lib.hid (show objV nul Hd.none = .agg nul6 from rfl)
  unfold objV at HE
  clear hl
  cases hb : o.ents
  · have HG := Lib.hid (show Cx.get o key = nul by unfold Cx.get; rw [hb]; rfl)
    have HEF := Lib.hid (fun w => HE.out w false hb.symm)
    show Calls Try.prog 38 #[.agg #[.int .i64 o.k, .int .i64 o.n, .int .i64 o.f, .string o.s, .slice hp o.l.length hc, .slice hq o.d.length he], .string key] w _
    go_enter Try.func38, Try.ntmps38
    go_wp2_with fail
    (with_reducible refine (HEF.out _).mono ?_)
    rintro e w2 ⟨rfl, hk2⟩
    have HX2 := Lib.hid (HX.out.kept hk2)
    have KX2 := Lib.hid (In.k HX2.out)
    have RM := Lib.hid (HX2.out.mem List.mem_cons_self)
    obtain ⟨u0, u1, u2, u3, u4, u5⟩ := RM.out.cells6
    have uf := RM.out.free
    have uz := RM.out.lt
    clear hk2
    go_wp2_with fail
    refine bodyPost_ret (v := .agg nul6) ?_ rfl ⟨Hd.none, by rw [HG.out]; rfl, ?_, by rw [HG.out]; exact Lies.flat _ _ _ _ _ _ (Nat.zero_le _)⟩
    · simp [results, Try.results38, go_sem, u0, u1, u2, u3, u4, u5]
    · repeat (with_reducible first | exact KX2.out | refine Kept.drew ?_ | refine Kept.alloc ?_ _ _ | refine Kept.set ?_ (by omega) _)
  · have HG := Lib.hid (show Cx.get o key = getD o.d key by unfold Cx.get; rw [hb]; rfl)
    have HEF := Lib.hid (fun w => HE.out w true hb.symm)
    have LD := Lib.hid (show Lies (Cel (fun b => P b ∧ b < w.heap.size) w) (dictO o.d) ⟨none, 0, hq, he⟩ from HL.out.entsOnly)
    obtain ⟨X, hX⟩ : ∃ X, X = idxE (fun e => keq e.1 key) o.d := ⟨_, rfl⟩
    have HXX := Lib.hid hX
    have hbd := idxE_bd (fun e => keq e.1 key) o.d
    rw [← hX] at hbd
    have HBD := Lib.hid hbd
    clear hX hbd
    show Calls Try.prog 38 #[.agg #[.int .i64 o.k, .int .i64 o.n, .int .i64 o.f, .string o.s, .slice hp o.l.length hc, .slice hq o.d.length he], .string key] w _
    go_enter Try.func38, Try.ntmps38
    go_wp2_with fail
    (with_reducible refine (HEF.out _).mono ?_)
    rintro e w2 ⟨rfl, hk2⟩
    have HX2 := Lib.hid (HX.out.kept hk2)
    have KX2 := Lib.hid (In.k HX2.out)
    have OM := Lib.hid (HX2.out.mem (List.mem_cons_of_mem _ (List.mem_cons_of_mem _ List.mem_cons_self)))
    obtain ⟨o0, o1, o2, o3, o4, o5⟩ := OM.out.cells6
    have oz := OM.out.lt
    have KM := Lib.hid (HX2.out.mem (List.mem_cons_of_mem _ List.mem_cons_self))
    clear hk2
    go_wp2_with fail
    (with_reducible refine (IndexFunc_any _ _ _ _ ent_get1 o.d hq he _ (LD.out.kept (In.k HX2.out)) (get1_asks key _ _ KM.out) X HXX.out).mono ?_)
    rintro e w3 ⟨rfl, hk3⟩
    have HX3 := Lib.hid (HX2.out.kept hk3)
    have KX3 := Lib.hid (In.k HX3.out)
    have RM := Lib.hid (HX3.out.mem List.mem_cons_self)
    obtain ⟨u0, u1, u2, u3, u4, u5⟩ := RM.out.cells6
    have uf := RM.out.free
    have uz := RM.out.lt
    have OM3 := Lib.hid (HX3.out.mem (List.mem_cons_of_mem _ (List.mem_cons_of_mem _ List.mem_cons_self)))
    clear o0 o1 o2 o3 o4 o5 oz hk3
    obtain ⟨o0, o1, o2, o3, o4, o5⟩ := OM3.out.cells6
    have oz := OM3.out.lt
    rcases HBD.out with hneg | ⟨i, hi, rfl⟩
    · have HG2 := Lib.hid (show Cx.get o key = nul by rw [HG.out]; exact (idxE_get o.d key).1 (by rw [← HXX.out]; exact hneg))
      go_wp2_with fail
      refine bodyPost_ret (v := .agg nul6) ?_ rfl ⟨Hd.none, by rw [HG2.out]; rfl, ?_, by rw [HG2.out]; exact Lies.flat _ _ _ _ _ _ (Nat.zero_le _)⟩
      · simp [results, Try.results38, go_sem, u0, u1, u2, u3, u4, u5]
      · repeat (with_reducible first | exact KX3.out | refine Kept.drew ?_ | refine Kept.alloc ?_ _ _ | refine Kept.set ?_ (by omega) _)
    · obtain ⟨ek, x, b, off, ⟨p', c', q', e'⟩, hxe, hqq, hPb, hbl, hx, hks, z0, y0, y1, y2, y3, y4, y5⟩ := (LD.out.kept (In.k HX3.out)).entry i hi
      simp only [dictO, Ob.d] at hxe
      simp only [] at hqq y4 y5
      subst hqq
      have HG2 := Lib.hid (show Cx.get o key = x by rw [HG.out, (idxE_get o.d key).2 i hi HXX.out.symm]; exact congrArg Prod.snd hxe)
      have XL := Lib.hid hx
      have NB := Lib.hid hPb
      clear hxe hx hPb
      have NK := Lib.hid (show ∀ b, (P b ∧ b < w.heap.size) → b ≠ w.heap.size + 1 + 1 from fun b hb => by omega)
      go_wp2_with fail
      refine bodyPost_ret (v := .agg #[.int .i64 x.k, .int .i64 x.n, .int .i64 x.f, .string x.s, .slice p' x.l.length c', .slice q' x.d.length e']) ?_ rfl ⟨⟨p', c', q', e'⟩, by rw [HG2.out]; rfl, ?_, ?_⟩
      · simp [results, Try.results38, go_sem, u0, u1, u2, u3, u4, u5]
      · repeat (with_reducible first | exact KX3.out | refine Kept.drew ?_ | refine Kept.alloc ?_ _ _ | refine Kept.set ?_ (by omega) _)
      · rw [HG2.out]
        refine Lies.weak (P := fun b => P b ∧ b < w.heap.size) ?_ (fun b hb => hb.1)
        repeat (with_reducible first | exact XL.out | refine Lies.set ?_ NK.out _ | refine Lies.alloc ?_ _)

end Go.Proofs.Ytakbhdhlcnpejaa
