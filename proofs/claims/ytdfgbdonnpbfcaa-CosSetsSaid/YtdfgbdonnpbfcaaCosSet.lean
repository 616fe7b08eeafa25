/-
  What package cos's Set answers.
-/
import Derived.Test.YtdfgbdonnpbfcaaCosOwnP
namespace Go.Proofs.Ytdfgbdonnpbfcaa
open Go.RowKit Cx

theorem In.gbOwn {w wx w' : World} {l : BlkList} {r : Option Nat} (h : In w l wx) (g : wx.grownBy w' r) (hr : ∀ k, r = some k → w.heap.size ≤ k ∧ ∀ x ∈ l, x.1 ≠ k) : In w l w' :=
  ⟨⟨g.os.trans h.1.os, g.tape.trans h.1.tape, g.output.trans h.1.output, Nat.le_trans h.1.size g.size, fun j hj => (g.block j (Nat.lt_of_lt_of_le hj h.1.size) (fun e => by have := (hr j e.symm).1; omega)).trans (h.1.block j hj)⟩,
   fun x m => (h.2 x m).gb g (fun e => (hr x.1 e.symm).2 x m rfl)⟩

set_option maxRecDepth 100000 in
set_option maxHeartbeats 4000000 in
theorem cosSet_any (P : Nat → Prop) (o : Ob) (h : Hd) (key : ByteArray) (v : Ob) (hv : Hd) (w : World) (hl : Lies (Cel P w) o h) (hlv : Lies (Cel P w) v hv) (hk : key.size ≤ maxLen) (hd : o.d.length ≤ 1048576) :
    Calls Try.prog 10 #[objV o h, .string key, objV v hv] w fun e w' => ∃ h', e = .returned (objV (Cx.set o key v) h') ∧ Kept w w' ∧ Lies (Cel (fun b => P b ∨ w.heap.size ≤ b) w') (Cx.set o key v) h' := by
  have HL := Lib.hid (show Lies (Cel (fun b => P b ∧ b < w.heap.size) w) o h from hl.keep fun b hb hlt => ⟨⟨hb, hlt⟩, rfl⟩)
  have HLV := Lib.hid (show Lies (Cel (fun b => P b ∧ b < w.heap.size) w) v hv from hlv.keep fun b hb hlt => ⟨⟨hb, hlt⟩, rfl⟩)
  have HE := Lib.hid (fun w b hb => hasEntries_any o h w b hb)
  have HN := Lib.hid (fun w b hb => isNull_any v hv w b hb)
  have HK := Lib.hid hk
  obtain ⟨hp, hc, hq, he⟩ := h
  obtain ⟨vp, vc, vq, ve⟩ := hv
  have HX := Lib.hid (In.fresh' (k := w.heap.size + 1 + 1) (In.fresh' (k := w.heap.size + 1) (In.fresh (In.start w) #[.int .i64 o.k, .int .i64 o.n, .int .i64 o.f, .string o.s, .slice hp o.l.length hc, .slice hq o.d.length he] 26) #[.int .i64 v.k, .int .i64 v.n, .int .i64 v.f, .string v.s, .slice vp v.l.length vc, .slice vq v.d.length ve] 26 (by simp)) nul6 26 (by simp))
  unfold objV at HE HN
  clear hl hlv hk
  cases hb : o.ents
  · have HG := Lib.hid (show Cx.set o key v = o by unfold Cx.set; rw [hb]; rfl)
    have HEF := Lib.hid (fun w => HE.out w false hb.symm)
    show Calls Try.prog 10 #[.agg #[.int .i64 o.k, .int .i64 o.n, .int .i64 o.f, .string o.s, .slice hp o.l.length hc, .slice hq o.d.length he], .string key, .agg #[.int .i64 v.k, .int .i64 v.n, .int .i64 v.f, .string v.s, .slice vp v.l.length vc, .slice vq v.d.length ve]] w _
    go_enter Try.func10, Try.ntmps10
    go_wp2_with fail
    (with_reducible refine (HEF.out _).mono ?_)
    rintro e w2 ⟨rfl, hk2⟩
    have HX2 := Lib.hid (HX.out.kept hk2)
    have KX2 := Lib.hid (In.k HX2.out)
    have XL := Lib.hid (HL.out.kept KX2.out)
    have RM := Lib.hid (HX2.out.mem List.mem_cons_self)
    obtain ⟨u0, u1, u2, u3, u4, u5⟩ := RM.out.cells6
    have uf := RM.out.free
    have uz := RM.out.lt
    have OM := Lib.hid (HX2.out.mem (List.mem_cons_of_mem _ (List.mem_cons_of_mem _ List.mem_cons_self)))
    obtain ⟨o0, o1, o2, o3, o4, o5⟩ := OM.out.cells6
    have NK := Lib.hid (show ∀ b, (P b ∧ b < w.heap.size) → b ≠ w.heap.size + 1 + 1 from fun b hb => by omega)
    clear hk2
    go_wp2_with fail
    refine bodyPost_ret (v := .agg #[.int .i64 o.k, .int .i64 o.n, .int .i64 o.f, .string o.s, .slice hp o.l.length hc, .slice hq o.d.length he]) ?_ rfl ⟨⟨hp, hc, hq, he⟩, by rw [HG.out]; rfl, ?_, ?_⟩
    · simp [results, Try.results10, go_sem, u0, u1, u2, u3, u4, u5]
    · repeat (with_reducible first | exact KX2.out | refine Kept.drew ?_ | refine Kept.alloc ?_ _ _ | refine Kept.set ?_ (by omega) _)
    · rw [HG.out]
      refine Lies.weak (P := fun b => P b ∧ b < w.heap.size) ?_ (fun b hb => .inl hb.1)
      repeat (with_reducible first | exact XL.out | refine Lies.set ?_ NK.out _ | refine Lies.alloc ?_ _)
  · have HG := Lib.hid (show Cx.set o key v = .mk o.k o.n o.f o.s o.l (setD o.d key v) by unfold Cx.set; rw [hb]; rfl)
    have HEF := Lib.hid (fun w => HE.out w true hb.symm)
    obtain ⟨i0, hi, hz0, hz1, hz2⟩ := info_parts info_ent
    have HI := Lib.hid hi
    have HZ0 := Lib.hid hz0
    have HZ1 := Lib.hid hz1
    have HZ2 := Lib.hid hz2
    clear hi hz0 hz1 hz2
    show Calls Try.prog 10 #[.agg #[.int .i64 o.k, .int .i64 o.n, .int .i64 o.f, .string o.s, .slice hp o.l.length hc, .slice hq o.d.length he], .string key, .agg #[.int .i64 v.k, .int .i64 v.n, .int .i64 v.f, .string v.s, .slice vp v.l.length vc, .slice vq v.d.length ve]] w _
    go_enter Try.func10, Try.ntmps10
    go_wp2_with fail
    (with_reducible refine (HEF.out _).mono ?_)
    rintro e w2 ⟨rfl, hk2⟩
    have HX2 := Lib.hid (HX.out.kept hk2)
    have KX2 := Lib.hid (In.k HX2.out)
    have OM := Lib.hid (HX2.out.mem (List.mem_cons_of_mem _ (List.mem_cons_of_mem _ List.mem_cons_self)))
    obtain ⟨o0, o1, o2, o3, o4, o5⟩ := OM.out.cells6
    have oz := OM.out.lt
    have RM := Lib.hid (HX2.out.mem List.mem_cons_self)
    have uz := RM.out.lt
    clear hk2
    go_wp2_with (at_make; go_loud (refine wpList_make_own _ rfl _ _ 24 rfl (w.heap.size + 3) 34 i0 _ 7 Try.underlying24 HI.out HZ0.out HZ1.out .i64 .i64 _ (o.d.length + 1) rfl rfl (by omega) (by rw [HZ2.out]; omega) (by unfold maxLen; omega) (by omega) ?_))
    intro w3 own3 hg3
    have HX3 := Lib.hid (HX2.out.gbOwn hg3 (fun _ e => by cases e))
    have O3 := Lib.hid (show OwnP KE (fun b => P b ∧ b < w.heap.size) (w.heap.size + 3) w3 (.slice (some ⟨w2.heap.size, 0, none⟩) 0 (o.d.length + 1)) [] from ⟨own3, fun _ h => absurd h List.not_mem_nil, by have := hg3.size; omega⟩)
    have VM := Lib.hid (HX3.out.mem (List.mem_cons_of_mem _ List.mem_cons_self))
    obtain ⟨v0, v1, v2, v3, v4, v5⟩ := VM.out.cells6
    have vz := VM.out.lt
    clear own3 hg3 o0 o1 o2 o3 o4 o5 oz uz
    go_wp2_with fail
    (with_reducible refine (HN.out _ (v.k == 0) rfl).mono ?_)
    rintro e w4 ⟨rfl, hk4⟩
    have HX4 := Lib.hid (HX3.out.kept hk4)
    have O4 := Lib.hid (O3.out.kept hk4)
    have OM4 := Lib.hid (HX4.out.mem (List.mem_cons_of_mem _ (List.mem_cons_of_mem _ List.mem_cons_self)))
    obtain ⟨o0, o1, o2, o3, o4, o5⟩ := OM4.out.cells6
    have oz := OM4.out.lt
    have NL := Lib.hid (show ∀ k, w.heap.size + 3 ≤ k → ∀ x ∈ ([(w.heap.size + 1 + 1, nul6, 26), (w.heap.size + 1, #[.int .i64 v.k, .int .i64 v.n, .int .i64 v.f, .string v.s, .slice vp v.l.length vc, .slice vq v.d.length ve], 26), (w.heap.size, #[.int .i64 o.k, .int .i64 o.n, .int .i64 o.f, .string o.s, .slice hp o.l.length hc, .slice hq o.d.length he], 26)] : BlkList), x.1 ≠ k from fun k hk x hx => by
      simp at hx
      rcases hx with rfl | rfl | rfl <;> simp <;> omega)
    have LD := Lib.hid (show Lies (Cel (fun b => P b ∧ b < w.heap.size) w) (dictO o.d) ⟨none, 0, hq, he⟩ from HL.out.entsOnly)
    have LVW : ∀ b, (P b ∧ b < w.heap.size) → ((P b ∧ b < w.heap.size) ∧ b < w.heap.size + 3) := fun b hb => ⟨hb, by omega⟩
    have HLW := Lib.hid LVW
    clear hk4 v0 v1 v2 v3 v4 v5 vz LVW O3 HX3 OM VM OM4
    go_wp2_with fail
    clear o0 o1 o2 o3 o4 o5 oz
    go_loopg [7, 8, 25] (o.d.length) (fun m a f i wr => ∃ (j : Nat) (rows : List (Entr × Hd)) (p : Option Addr) (cap : Nat) (b : Bool), m = o.d.length - j ∧ j ≤ o.d.length ∧ i = .int .i64 j ∧ f = .bool b ∧ a = .slice p rows.length cap ∧ rows.length ≤ j + 1 ∧ In w [(w.heap.size + 1 + 1, nul6, 26), (w.heap.size + 1, #[.int .i64 v.k, .int .i64 v.n, .int .i64 v.f, .string v.s, .slice vp v.l.length vc, .slice vq v.d.length ve], 26), (w.heap.size, #[.int .i64 o.k, .int .i64 o.n, .int .i64 o.f, .string o.s, .slice hp o.l.length hc, .slice hq o.d.length he], 26)] wr ∧ OwnP KE (fun b => P b ∧ b < w.heap.size) (w.heap.size + 3) wr (.slice p rows.length cap) rows ∧ Hid (rows.map (·.1) ++ setGo key v b (o.d.drop j) = setD o.d key v) ∧ Hid (∀ r ∈ rows, r.1.1.size ≤ maxLen))
    case atStart => exact ⟨0, [], _, _, (v.k == 0), by omega, Nat.zero_le _, rfl, rfl, rfl, Nat.zero_le _, HX4.out, O4.out, Lib.hid rfl, Lib.hid (fun _ h => absurd h List.not_mem_nil)⟩
    case round =>
      obtain ⟨j, rows, p, cap, b, hm, hj, rfl, rfl, rfl, hrl, hX, hO, HS, HKS⟩ := hrel
      have HXR := Lib.hid hX
      have HO := Lib.hid hO
      have HKR := Lib.hid (In.k hX)
      have VM := Lib.hid (HXR.out.mem (List.mem_cons_of_mem _ List.mem_cons_self))
      obtain ⟨v0, v1, v2, v3, v4, v5⟩ := VM.out.cells6
      have vz := VM.out.lt
      clear hX hO HX4 O4
      by_cases hlt : j < o.d.length
      · obtain ⟨ek, x, bb, off, ⟨p', c', q', e'⟩, hxe, hqq, hPb, hbl, hx, hks, z0, y0, y1, y2, y3, y4, y5⟩ := (LD.out.kept HKR.out).entry j hlt
        simp only [dictO, Ob.d] at hxe
        simp only [] at hqq y4 y5
        subst hqq
        have HDR := Lib.hid (show o.d.drop j = (ek, x) :: o.d.drop (j + 1) by rw [List.drop_eq_getElem_cons hlt]; congr 1)
        have XL := Lib.hid (hx.weak HLW.out)
        have HEK := Lib.hid hks
        clear hxe hx hPb hks
        cases hkq : keq ek key
        · have eq : (ek.toList == key.toList) = false := hkq
          have HS1 := Lib.hid (show (rows.map (·.1) ++ [(ek, x)]) ++ setGo key v b (o.d.drop (j + 1)) = setD o.d key v by
            rw [← HS.out, HDR.out, setGo, hkq, if_neg (by simp), List.append_assoc]; rfl)
          have XL1 := Lib.hid ((XL.out.alloc (.cells #[.string ek, .int .i64 x.k, .int .i64 x.n, .int .i64 x.f, .string x.s, .slice p' x.l.length c', .slice q' x.d.length e'] 34)))
          have O5 := Lib.hid (HO.out.kept ((Kept.refl wr).alloc #[.string ek, .int .i64 x.k, .int .i64 x.n, .int .i64 x.f, .string x.s, .slice p' x.l.length c', .slice q' x.d.length e'] 34))
          have HX5 := Lib.hid ((HXR.out.alloc (.cells #[.string ek, .int .i64 x.k, .int .i64 x.n, .int .i64 x.f, .string x.s, .slice p' x.l.length c', .slice q' x.d.length e'] 34)).alloc (.cells #[.string ek, .int .i64 x.k, .int .i64 x.n, .int .i64 x.f, .string x.s, .slice p' x.l.length c', .slice q' x.d.length e'] 34))
          clear hkq
          go_wp2_with (at_builtin; go_loud (refine wpList_app_entP rfl _ _ rfl _ _ rows O5.out rfl ((ek, x), ⟨p', c', q', e'⟩) _ rfl (wr.heap.size + 1) (by simp) rfl (by omega) ?_))
          intro g cap2 w6 own6 hg6
          have HX6 := Lib.hid (HX5.out.gbOwn hg6 (fun k hk => by have := (O5.out.lt k hk).1; exact ⟨by omega, NL.out k this⟩))
          have O6 := Lib.hid (OwnP.app (x := (((ek, x), (⟨p', c', q', e'⟩ : Hd)) : Entr × Hd)) O5.out XL1.out own6 hg6)
          have HLen := Lib.hid (show (rows ++ [((ek, x), (⟨p', c', q', e'⟩ : Hd))]).length = rows.length + 1 by simp)
          clear own6 hg6
          go_wp2_with fail
          go_roundg (o.d.length - (j + 1))
          case measure => omega
          case rel =>
            refine ⟨j + 1, rows ++ [((ek, x), ⟨p', c', q', e'⟩)], some ⟨g, 0, none⟩, cap2, b, rfl, by omega, by go_num, rfl, by rw [HLen.out], by rw [HLen.out]; omega, HX6.out, by rw [HLen.out]; exact O6.out, Lib.hid (by rw [List.map_append]; exact HS1.out), Lib.hid fun r hr => ?_⟩
            rcases List.mem_append.1 hr with hr | hr
            · exact HKS.out r hr
            · rw [List.mem_singleton.1 hr]; exact HEK.out
        · have eq : (ek.toList == key.toList) = true := hkq
          cases b
          · have HS1 := Lib.hid (show (rows.map (·.1) ++ [(key, v)]) ++ setGo key v true (o.d.drop (j + 1)) = setD o.d key v by
              rw [← HS.out, HDR.out, setGo, hkq, if_pos rfl, if_neg (by simp), List.append_assoc]; rfl)
            have XL1 := Lib.hid ((((HLV.out.kept HKR.out).weak HLW.out).alloc (.cells #[.string ek, .int .i64 x.k, .int .i64 x.n, .int .i64 x.f, .string x.s, .slice p' x.l.length c', .slice q' x.d.length e'] 34)).alloc (.cells #[.string key, .int .i64 v.k, .int .i64 v.n, .int .i64 v.f, .string v.s, .slice vp v.l.length vc, .slice vq v.d.length ve] 34))
            have XL2 := Lib.hid (((HLV.out.kept HKR.out).weak HLW.out).alloc (.cells #[.string ek, .int .i64 x.k, .int .i64 x.n, .int .i64 x.f, .string x.s, .slice p' x.l.length c', .slice q' x.d.length e'] 34))
            have O5 := Lib.hid (HO.out.kept ((Kept.refl wr).alloc #[.string ek, .int .i64 x.k, .int .i64 x.n, .int .i64 x.f, .string x.s, .slice p' x.l.length c', .slice q' x.d.length e'] 34))
            have HX5 := Lib.hid ((HXR.out.alloc (.cells #[.string ek, .int .i64 x.k, .int .i64 x.n, .int .i64 x.f, .string x.s, .slice p' x.l.length c', .slice q' x.d.length e'] 34)).alloc (.cells #[.string key, .int .i64 v.k, .int .i64 v.n, .int .i64 v.f, .string v.s, .slice vp v.l.length vc, .slice vq v.d.length ve] 34))
            clear hkq
            go_wp2_with (at_builtin; go_loud (refine wpList_app_entP rfl _ _ rfl _ _ rows O5.out rfl ((key, v), (⟨vp, vc, vq, ve⟩ : Hd)) _ rfl (wr.heap.size + 1) (by simp) rfl (by omega) ?_))
            intro g cap2 w6 own6 hg6
            have HX6 := Lib.hid (HX5.out.gbOwn hg6 (fun k hk => by have := (O5.out.lt k hk).1; exact ⟨by omega, NL.out k this⟩))
            have O6 := Lib.hid (OwnP.app (x := (((key, v), (⟨vp, vc, vq, ve⟩ : Hd)) : Entr × Hd)) O5.out XL2.out own6 hg6)
            have HLen := Lib.hid (show (rows ++ [((key, v), (⟨vp, vc, vq, ve⟩ : Hd))]).length = rows.length + 1 by simp)
            clear own6 hg6
            go_wp2_with fail
            go_roundg (o.d.length - (j + 1))
            case measure => omega
            case rel =>
              refine ⟨j + 1, rows ++ [((key, v), (⟨vp, vc, vq, ve⟩ : Hd))], some ⟨g, 0, none⟩, cap2, true, rfl, by omega, by go_num, rfl, by rw [HLen.out], by rw [HLen.out]; omega, HX6.out, by rw [HLen.out]; exact O6.out, Lib.hid (by rw [List.map_append]; exact HS1.out), Lib.hid fun r hr => ?_⟩
              rcases List.mem_append.1 hr with hr | hr
              · exact HKS.out r hr
              · rw [List.mem_singleton.1 hr]; exact HK.out
          · have HS1 := Lib.hid (show rows.map (·.1) ++ setGo key v true (o.d.drop (j + 1)) = setD o.d key v by
              rw [← HS.out, HDR.out, setGo, hkq, if_pos rfl, if_pos rfl])
            have O5 := Lib.hid (HO.out.kept ((Kept.refl wr).alloc #[.string ek, .int .i64 x.k, .int .i64 x.n, .int .i64 x.f, .string x.s, .slice p' x.l.length c', .slice q' x.d.length e'] 34))
            have HX5 := Lib.hid (HXR.out.alloc (.cells #[.string ek, .int .i64 x.k, .int .i64 x.n, .int .i64 x.f, .string x.s, .slice p' x.l.length c', .slice q' x.d.length e'] 34))
            clear hkq
            go_wp2_with fail
            go_roundg (o.d.length - (j + 1))
            case measure => omega
            case rel => exact ⟨j + 1, rows, p, cap, true, rfl, by omega, by go_num, rfl, rfl, by omega, HX5.out, O5.out, HS1, HKS⟩
      · have HJ : o.d.drop j = [] := List.drop_eq_nil_of_le (by omega)
        have NK0 := Lib.hid (show ∀ b, ((P b ∧ b < w.heap.size) ∨ w.heap.size + 3 ≤ b) → b ≠ w.heap.size from fun b hb => by omega)
        have NK2 := Lib.hid (show ∀ b, ((P b ∧ b < w.heap.size) ∨ w.heap.size + 3 ≤ b) → b ≠ w.heap.size + 1 + 1 from fun b hb => by omega)
        cases b
        · have HS1 := Lib.hid (show (rows.map (·.1) ++ [(key, v)]) = setD o.d key v by
            rw [← HS.out, HJ, setGo, if_neg (by simp)])
          have XL2 := Lib.hid ((HLV.out.kept HKR.out).weak HLW.out)
          have HX5 := Lib.hid (HXR.out.alloc (.cells #[.string key, .int .i64 v.k, .int .i64 v.n, .int .i64 v.f, .string v.s, .slice vp v.l.length vc, .slice vq v.d.length ve] 34))
          go_wp2_with (at_builtin; go_loud (refine wpList_app_entP rfl _ _ rfl _ _ rows HO.out rfl ((key, v), (⟨vp, vc, vq, ve⟩ : Hd)) _ rfl wr.heap.size rfl rfl (by omega) ?_))
          intro g cap2 w6 own6 hg6
          have HX6 := Lib.hid (HX5.out.gbOwn hg6 (fun k hk => by have := (HO.out.lt k hk).1; exact ⟨by omega, NL.out k this⟩))
          have O6 := Lib.hid (OwnP.app (x := (((key, v), (⟨vp, vc, vq, ve⟩ : Hd)) : Entr × Hd)) HO.out XL2.out own6 hg6)
          have HLen := Lib.hid (show (rows ++ [((key, v), (⟨vp, vc, vq, ve⟩ : Hd))]).length = rows.length + 1 by simp)
          clear own6 hg6 v0 v1 v2 v3 v4 v5 vz VM
          have K6 := Lib.hid (In.k HX6.out)
          have OM6 := Lib.hid (HX6.out.mem (List.mem_cons_of_mem _ (List.mem_cons_of_mem _ List.mem_cons_self)))
          obtain ⟨o0, o1, o2, o3, o4, o5⟩ := OM6.out.cells6
          have oz := OM6.out.lt
          have of := OM6.out.free
          have RM6 := Lib.hid (HX6.out.mem List.mem_cons_self)
          obtain ⟨u0, u1, u2, u3, u4, u5⟩ := RM6.out.cells6
          have uz := RM6.out.lt
          have uf := RM6.out.free
          have HLN := Lib.hid (show (rows ++ [((key, v), (⟨vp, vc, vq, ve⟩ : Hd))]).map (·.1) = setD o.d key v by rw [List.map_append]; exact HS1.out)
          have HLL := Lib.hid (show (setD o.d key v).length = rows.length + 1 by rw [← HLN.out, List.length_map, HLen.out])
          have KS : ∀ r ∈ (rows ++ [((key, v), (⟨vp, vc, vq, ve⟩ : Hd))]), r.1.1.size ≤ maxLen := fun r hr => by
              rcases List.mem_append.1 hr with hr | hr
              · exact HKS.out r hr
              · rw [List.mem_singleton.1 hr]; exact HK.out
          have DD := OwnP.dict (acc := rows ++ [((key, v), (⟨vp, vc, vq, ve⟩ : Hd))]) (p := some ⟨g, 0, none⟩) (cap := cap2) (by rw [HLen.out]; exact O6.out) (by rw [HLen.out]; unfold maxLen; omega) KS
          have LF := Lib.hid (show Lies (Cel (fun b => (P b ∧ b < w.heap.size) ∨ w.heap.size + 3 ≤ b) w6) (.mk o.k o.n o.f o.s o.l (setD o.d key v)) ⟨hp, hc, some ⟨g, 0, none⟩, cap2⟩ by
            have T := Lies.withD (o := o) (h := ⟨hp, hc, hq, he⟩) ((HL.out.kept K6.out).weak (fun _ hb => .inl hb)) DD
            rw [HLN.out] at T
            exact T)
          clear DD KS
          go_wp2_with fail
          refine bodyPost_ret (v := .agg #[.int .i64 o.k, .int .i64 o.n, .int .i64 o.f, .string o.s, .slice hp o.l.length hc, .slice (some ⟨g, 0, none⟩) (rows.length + 1) cap2]) ?_ rfl ⟨⟨hp, hc, some ⟨g, 0, none⟩, cap2⟩, by rw [HG.out, ← HLL.out]; rfl, ?_, ?_⟩
          · simp [results, Try.results10, go_sem, u0, u1, u2, u3, u4, u5]
          · repeat (with_reducible first | exact K6.out | refine Kept.set ?_ (by omega) _)
          · rw [HG.out]
            refine Lies.weak (P := fun b => (P b ∧ b < w.heap.size) ∨ w.heap.size + 3 ≤ b) ?_ (fun b hb => hb.elim (fun h => .inl h.1) (fun h => .inr (by omega)))
            repeat (with_reducible first | exact LF.out | refine Lies.set ?_ NK0.out _ | refine Lies.set ?_ NK2.out _)
        · have HS1 := Lib.hid (show rows.map (·.1) = setD o.d key v by
            rw [← HS.out, HJ, setGo, if_pos rfl, List.append_nil])
          clear v0 v1 v2 v3 v4 v5 vz VM
          have OM6 := Lib.hid (HXR.out.mem (List.mem_cons_of_mem _ (List.mem_cons_of_mem _ List.mem_cons_self)))
          obtain ⟨o0, o1, o2, o3, o4, o5⟩ := OM6.out.cells6
          have oz := OM6.out.lt
          have of := OM6.out.free
          have RM6 := Lib.hid (HXR.out.mem List.mem_cons_self)
          obtain ⟨u0, u1, u2, u3, u4, u5⟩ := RM6.out.cells6
          have uz := RM6.out.lt
          have uf := RM6.out.free
          have HLN := Lib.hid (show (rows).map (·.1) = setD o.d key v by exact HS1.out)
          have HLL := Lib.hid (show (setD o.d key v).length = rows.length by rw [← HLN.out, List.length_map])
          have KS : ∀ r ∈ (rows), r.1.1.size ≤ maxLen := HKS.out
          have DD := OwnP.dict (acc := rows) (p := p) (cap := cap) HO.out (by unfold maxLen; omega) KS
          have LF := Lib.hid (show Lies (Cel (fun b => (P b ∧ b < w.heap.size) ∨ w.heap.size + 3 ≤ b) wr) (.mk o.k o.n o.f o.s o.l (setD o.d key v)) ⟨hp, hc, p, cap⟩ by
            have T := Lies.withD (o := o) (h := ⟨hp, hc, hq, he⟩) ((HL.out.kept HKR.out).weak (fun _ hb => .inl hb)) DD
            rw [HLN.out] at T
            exact T)
          clear DD KS
          go_wp2_with fail
          refine bodyPost_ret (v := .agg #[.int .i64 o.k, .int .i64 o.n, .int .i64 o.f, .string o.s, .slice hp o.l.length hc, .slice (p) (rows.length) cap]) ?_ rfl ⟨⟨hp, hc, p, cap⟩, by rw [HG.out, ← HLL.out]; rfl, ?_, ?_⟩
          · simp [results, Try.results10, go_sem, u0, u1, u2, u3, u4, u5]
          · repeat (with_reducible first | exact HKR.out | refine Kept.set ?_ (by omega) _)
          · rw [HG.out]
            refine Lies.weak (P := fun b => (P b ∧ b < w.heap.size) ∨ w.heap.size + 3 ≤ b) ?_ (fun b hb => hb.elim (fun h => .inl h.1) (fun h => .inr (by omega)))
            repeat (with_reducible first | exact LF.out | refine Lies.set ?_ NK0.out _ | refine Lies.set ?_ NK2.out _)

end Go.Proofs.Ytdfgbdonnpbfcaa
