/-
  The reference's Raw.
-/
import Derived.Test.YtkobcgemllcfoaaDoorInfRefDyn
import Derived.Test.YtkobcgemllcfoaaDoorInfZlib
namespace Go.Proofs.YtkobcgemllcfoaaDoor
open Go.RowKit Ix
set_option linter.unusedSimpArgs false
set_option linter.unusedVariables false

theorem block_short {B : List UInt8} {t : Nat} {out : List UInt8} (h : ¬ t + 3 ≤ 8 * B.length) : blockV B t out = .error 4 := by unfold blockV; rw [if_neg h]
theorem block_is {B : List UInt8} {t : Nat} {out : List UInt8} (h : t + 3 ≤ 8 * B.length) : blockV B t out = lastV (bitAt B t == 1) (kindV (numAt B 2 (t + 1)) B (t + 3) out) := by unfold blockV; rw [if_pos h]
theorem Nums.roW {w : World} {M b : Nat} {v lv : Value} {l : List Nat} (h : Nums w M lv l) (hb : b < M) (hv : ∀ k, v.ownBlock = some k → k < M) : Ro w b v lv l := by
  rcases h.2 with ⟨rfl, h1⟩ | ⟨g, cap, cur, rfl, -⟩
  · exact ⟨none, 0, by rw [h1], fun i hi => by omega⟩
  · exact h.ro rfl hb hv l.length cap l 0 rfl (fun i hi => by rw [Nat.zero_add, List.getElem?_eq_getElem hi])
theorem coded_fixed (B : List UInt8) (t : Nat) (out : List UInt8) : codedV fixS fixD B t out = pressGo fixS fixD B (8 * B.length + 1) t out := by
  unfold codedV
  rw [if_neg (by rw [show isTree fixS = true by kernel_rfl]; simp), if_neg (by rw [show isTree fixD = true by kernel_rfl]; simp)]
theorem fix_small : (∀ x ∈ fixS, x ≤ 15) ∧ ∀ x ∈ fixD, x ≤ 15 := by
  have h1 : fixS.all (fun x => decide (x ≤ 15)) = true := by kernel_rfl
  have h2 : fixD.all (fun x => decide (x ≤ 15)) = true := by kernel_rfl
  exact ⟨fun x hx => of_decide_eq_true (List.all_eq_true.1 h1 x hx), fun x hx => of_decide_eq_true (List.all_eq_true.1 h2 x hx)⟩
theorem dyn_small {B : List UInt8} {t t' : Nat} {S D : List Nat} (h : dynV B t = .ok (S, D, t')) : S.length ≤ 320 ∧ D.length ≤ 320 ∧ (∀ x ∈ S, x ≤ 15) ∧ (∀ x ∈ D, x ≤ 15) ∧ t < t' := by
  unfold dynV at h
  by_cases e1 : t + 14 ≤ 8 * B.length
  · rw [if_pos e1] at h
    by_cases e2 : 286 < numAt B 5 t + 257 ∨ 30 < numAt B 5 (t + 5) + 1
    · rw [if_pos e2] at h; cases h
    · rw [if_neg e2] at h
      by_cases e3 : t + 14 + 3 * (numAt B 4 (t + 10) + 4) ≤ 8 * B.length
      · rw [if_pos e3] at h
        by_cases e4 : isTree (shortL B (numAt B 4 (t + 10) + 4) (t + 14)) = false
        · rw [if_pos e4] at h; cases h
        · rw [if_neg e4] at h
          cases hl : lensGo (shortL B (numAt B 4 (t + 10) + 4) (t + 14)) B (numAt B 5 t + 257 + (numAt B 5 (t + 5) + 1)) (numAt B 5 t + 257 + (numAt B 5 (t + 5) + 1) + 1) (t + 14 + 3 * (numAt B 4 (t + 10) + 4)) [] with
          | error k => rw [hl] at h; cases h
          | ok r =>
            obtain ⟨l, t2⟩ := r
            rw [hl, dynEnd] at h
            obtain ⟨k1, k2, k3, k4⟩ := lensGo_ok _ B _ (shortL_len B _ _) _ _ _ _ _ hl (Nat.zero_le _) (by simp) e3
            by_cases f1 : l.getD 256 0 = 0
            · rw [if_pos f1] at h; cases h
            · rw [if_neg f1] at h
              injection h with h
              injection h with h1 h2
              injection h2 with h2 h3
              subst h1 h2 h3
              rw [List.length_take, List.length_drop]
              exact ⟨by omega, by omega, fun x hx => k2 x (List.mem_of_mem_take hx), fun x hx => k2 x (List.mem_of_mem_drop hx), by omega⟩
      · rw [if_neg e3] at h; cases h
  · rw [if_neg e1] at h; cases h

theorem raw_round {B : List UInt8} {f t x : Nat} {o : List UInt8} {r : Except Int (List UInt8 × Nat)} (h : blockV B t o = lastV (x == 1) r) (hx : x < 2) :
    (∀ k, r = .error k → rawGo B (f + 1) t o = .error k) ∧ ∀ o' t', r = .ok (o', t') → (x = 1 → rawGo B (f + 1) t o = .ok (o', (t' + 7) / 8)) ∧ (x = 0 → rawGo B (f + 1) t o = rawGo B f t' o') ∧ t < t' := by
  refine ⟨fun k hr => ?_, fun o' t' hr => ?_⟩
  · subst hr; exact raw_no h
  · subst hr
    refine ⟨fun h1 => ?_, fun h1 => ?_, block_lt h⟩
    · subst h1; exact raw_last h
    · subst h1; exact raw_more h
theorem raw_kept {w W wr : World} {b : Nat} {v : Value} (k : Kept w W) (g : Gr W b (.slice none 0 0) wr v) (hb : b = w.heap.size) : Kept w wr :=
  ⟨g.os.trans k.os, g.tape.trans k.tape, g.output.trans k.output, Nat.le_trans k.size g.size, fun j hj => (g.block j (Nat.lt_of_lt_of_le hj k.size) (by omega) (by simp [Value.ownBlock])).trans (k.block j hj)⟩

set_option maxRecDepth 100000 in
set_option maxHeartbeats 8000000 in
theorem refRaw_any (B : List UInt8) (p : Option Addr) (c : Nat) (w : World) (h : ByR w w.heap.size p B) (hB : B.length ≤ 1099511627776) :
    Calls Tryd.prog 22 #[.slice p B.length c] w (RawA w (rawV B)) := by
  have HB := Lib.hid h
  clear h
  go_enter Tryd.func22, Tryd.ntmps22
  go_wp2_with fail
  obtain ⟨W1, hW1⟩ : ∃ W1, W1 = w.alloc (.cells #[.slice p B.length c, .int .i64 0, .slice none 0 0, .int .i64 0] 76) := ⟨_, rfl⟩
  have KW := Lib.hid (show Kept w W1 by rw [hW1]; exact (Kept.refl w).allocO _)
  obtain ⟨b, hb⟩ : ∃ b, b = w.heap.size := ⟨_, rfl⟩
  have SW0 := Lib.hid (show Sw W1 w.heap.size b p c B 0 (.slice none 0 0) [] 0 from by
    rw [hW1, hb]
    exact ⟨Blk.fresh w _ _, fun i hi => by
      obtain ⟨k, o, hp, hk, hc⟩ := HB.out i hi
      exact ⟨k, o, hp, hk, by rw [← hc]; exact World.cell?_of_block (Below.heap_alloc w _ k hk)⟩, Nat.le_refl _, World.ownsRow_nil _ _ _ _, by simp, Nat.zero_le _⟩)
  have HBW := Lib.hid hb
  simp only [← hb]
  rw [← hW1]
  clear hW1 hb
  go_loopg [6] (8 * B.length + 1) (fun m lv wr => ∃ (last f t : Nat) (o : List UInt8) (v1 : Value) (e1 : Int), lv = .int .i64 last ∧ m = f ∧ SwR W1 w.heap.size b p c B (.slice none 0 0) wr t v1 o e1 ∧ last < 2 ∧ ((e1 = 0 ∧ last = 0 ∧ 8 * B.length < f + t ∧ Hid (rawGo B f t o = rawV B)) ∨ (e1 = 0 ∧ last = 1 ∧ Hid (rawV B = .ok (o, (t + 7) / 8))) ∨ (e1 ≠ 0 ∧ Hid (rawV B = .error e1))))
  case atStart => exact ⟨0, 8 * B.length + 1, 0, [], _, 0, rfl, rfl, SwR.refl SW0.out, by decide, .inl ⟨rfl, rfl, by omega, Lib.hid rfl⟩⟩
  case round =>
    obtain ⟨last, fz, t, o, v1, e1, rfl, hm, hs, hl2, hst⟩ := hrel
    have SW := Lib.hid hs
    obtain ⟨c0, c1, c2, c3⟩ := hs.st.cells
    clear hs
    rcases hst with ⟨rfl, rfl, hfl, HG⟩ | ⟨rfl, rfl, HV⟩ | ⟨he1, HV⟩
    · have htl := SW.out.st.le
      obtain ⟨f, rfl⟩ : ∃ f, fz = f + 1 := ⟨fz - 1, by omega⟩
      have N1 := Lib.hid (bits_fun 1 1 rfl SW.out.st (by decide) hB)
      go_wp2_with fail
      (with_reducible refine N1.out.mono ?_)
      rintro en w2 ⟨x1, t1, e1, rfl, hx1, hs1, H1⟩
      have S1 := Lib.hid (SW.out.then hs1)
      have N2 := Lib.hid (bits_fun 2 2 rfl S1.out.st (by decide) hB)
      clear hs1
      go_wp2_with fail
      (with_reducible refine N2.out.mono ?_)
      rintro en w3 ⟨x2, t2, e2, rfl, hx2, hs2, H2⟩
      have S2 := Lib.hid (S1.out.then hs2)
      obtain ⟨c0, c1, c2, c3⟩ := S2.out.st.cells
      have hx12 : x1 < 2 := hx1
      have hx24 : x2 < 4 := hx2
      have HCASE := Lib.hid (show (t + 3 ≤ 8 * B.length ∧ x1 = bitAt B t ∧ x2 = numAt B 2 (t + 1) ∧ t2 = t + 3 ∧ e2 = 0) ∨ (¬ t + 3 ≤ 8 * B.length ∧ e2 = 4) by
        rcases H1.out with ⟨p1, p2, p3, p4⟩ | ⟨p1, p3, p4⟩
        · subst p3 p4
          rcases H2.out with ⟨q1, q2, q3, q4⟩ | ⟨q1, q3, q4⟩
          · exact .inl ⟨by omega, by rw [p2, numAt_1], q2, q3, q4⟩
          · exact .inr ⟨by omega, q4⟩
        · subst p3 p4
          rcases H2.out with ⟨q1, q2, q3, q4⟩ | ⟨q1, q3, q4⟩
          · exact absurd q1 (by omega)
          · exact .inr ⟨by omega, q4⟩)
      clear hs2 hx1 hx2 H1 H2 N1 N2
      rcases HCASE.out with ⟨hle, hxb, hxn, rfl, rfl⟩ | ⟨hle, rfl⟩
      rotate_left
      · have HV := Lib.hid (show rawV B = .error 4 by rw [← HG.out]; exact raw_no (block_short hle))
        clear hle HCASE
        go_wp2_with fail
        go_quiet (fail)
        go_wp2_with fail
        refine bodyPost_ret (v := .tuple #[.slice none 0 0, .int .i64 0, .int .i64 _]) (by simp [results, Tryd.results22, go_sem]; rfl) rfl ?_
        unfold RawA
        rw [HV.out]
        exact ⟨(raw_kept KW.out (S2.out).gr HBW.out).drewN _, rfl⟩
      · have HBK := Lib.hid (show blockV B t o = lastV (x1 == 1) (kindV x2 B (t + 3) o) by rw [block_is hle, ← hxb, ← hxn])
        clear hxb hxn HCASE
        rcases (show x2 = 0 ∨ x2 = 1 ∨ x2 = 2 ∨ x2 = 3 by omega) with rfl | rfl | rfl | rfl
        · have HRD := Lib.hid (raw_round (f := f) (show blockV B t o = lastV (x1 == 1) (storedV B (t + 3) o) from HBK.out) hx12)
          have ST := Lib.hid (refStored_any S2.out.st hB)
          go_wp2_with fail
          (with_reducible refine ST.out.mono ?_)
          intro en w8 hco
          obtain ⟨rfl, ⟨o8, t8, v8, hr8, hs8⟩ | ⟨k8, t8, v8, o8, hr8, hk8, hs8⟩⟩ := hco
          · have S8 := Lib.hid ((S2.out).then hs8)
            have HRR := Lib.hid (HRD.out.2 _ _ hr8)
            clear hs8 hr8
            obtain ⟨hone, hzero, htlt⟩ := HRR.out
            have HONE := Lib.hid hone
            have HZERO := Lib.hid hzero
            clear hone hzero
            go_wp2_with fail
            go_roundg f
            case measure => omega
            case rel =>
              rcases (show x1 = 0 ∨ x1 = 1 by omega) with hx | hx
              · exact ⟨x1, f, t8, o8, v8, 0, rfl, rfl, S8.out, by omega, .inl ⟨rfl, hx, by omega, Lib.hid (by rw [← HZERO.out hx]; exact HG.out)⟩⟩
              · exact ⟨x1, f, t8, o8, v8, 0, rfl, rfl, S8.out, by omega, .inr (.inl ⟨rfl, hx, Lib.hid (by rw [← HG.out]; exact HONE.out hx)⟩)⟩
          · have S8 := Lib.hid ((S2.out).then hs8)
            have HRR := Lib.hid (HRD.out.1 _ hr8)
            have HK8 := Lib.hid hk8
            clear hs8 hr8 hk8
            have HNE := Lib.hid (show rawV B = .error k8 by rw [← HG.out]; exact HRR.out)
            go_wp2_with fail
            go_roundg f
            case measure => omega
            case rel => exact ⟨x1, f, t8, o8, v8, k8, rfl, rfl, S8.out, by omega, .inr (.inr ⟨HK8.out, HNE⟩)⟩
        · have HRD := Lib.hid (raw_round (f := f) (show blockV B t o = lastV (x1 == 1) (codedV fixS fixD B (t + 3) o) from by rw [coded_fixed]; exact HBK.out) hx12)
          have FX := Lib.hid (refFixed_any w3)
          go_wp2_with fail
          (with_reducible refine FX.out.mono ?_)
          rintro en w4 ⟨lv, dv, rfl, hnl, hnd, hk4⟩
          have S4 := Lib.hid (S2.out.kept hk4)
          have RL := Lib.hid (hnl.roW (b := b) (v := v1) S2.out.st.blk.lt (fun k e => (S2.out.st.own.lt k e).2))
          have RD := Lib.hid (hnd.roW (b := b) (v := v1) S2.out.st.blk.lt (fun k e => (S2.out.st.own.lt k e).2))
          have CO := Lib.hid (refCoded_any fixS fixD lv dv S4.out.st hB RL.out RD.out (by decide) (by decide) fix_small.1 fix_small.2)
          clear hnl hnd hk4
          go_wp2_with fail
          (with_reducible refine CO.out.mono ?_)
          intro en w8 hco
          obtain ⟨rfl, ⟨o8, t8, v8, hr8, hs8⟩ | ⟨k8, t8, v8, o8, hr8, hk8, hs8⟩⟩ := hco
          · have S8 := Lib.hid ((S4.out).then hs8)
            have HRR := Lib.hid (HRD.out.2 _ _ hr8)
            clear hs8 hr8
            obtain ⟨hone, hzero, htlt⟩ := HRR.out
            have HONE := Lib.hid hone
            have HZERO := Lib.hid hzero
            clear hone hzero
            go_wp2_with fail
            go_roundg f
            case measure => omega
            case rel =>
              rcases (show x1 = 0 ∨ x1 = 1 by omega) with hx | hx
              · exact ⟨x1, f, t8, o8, v8, 0, rfl, rfl, S8.out, by omega, .inl ⟨rfl, hx, by omega, Lib.hid (by rw [← HZERO.out hx]; exact HG.out)⟩⟩
              · exact ⟨x1, f, t8, o8, v8, 0, rfl, rfl, S8.out, by omega, .inr (.inl ⟨rfl, hx, Lib.hid (by rw [← HG.out]; exact HONE.out hx)⟩)⟩
          · have S8 := Lib.hid ((S4.out).then hs8)
            have HRR := Lib.hid (HRD.out.1 _ hr8)
            have HK8 := Lib.hid hk8
            clear hs8 hr8 hk8
            have HNE := Lib.hid (show rawV B = .error k8 by rw [← HG.out]; exact HRR.out)
            go_wp2_with fail
            go_roundg f
            case measure => omega
            case rel => exact ⟨x1, f, t8, o8, v8, k8, rfl, rfl, S8.out, by omega, .inr (.inr ⟨HK8.out, HNE⟩)⟩
        · have HRD := Lib.hid (raw_round (f := f) (show blockV B t o = lastV (x1 == 1) (dynBlk B o (dynV B (t + 3))) from by rw [← own_dyn]; exact HBK.out) hx12)
          have DY := Lib.hid (refDynamic_any S2.out.st hB)
          go_wp2_with fail
          (with_reducible refine DY.out.mono ?_)
          rintro en w4 ⟨lv, dv, rfl, ⟨SS, DD, t4, hr4, hrl, hrd, hs4⟩ | ⟨k4, t4, hr4, hk4, hs4⟩⟩
          · obtain ⟨q1, q2, q3, q4, q5⟩ := dyn_small hr4
            rw [hr4] at HRD
            have S4 := Lib.hid (S2.out.then hs4)
            have CO := Lib.hid (refCoded_any SS DD lv dv S4.out.st hB hrl hrd q1 q2 q3 q4)
            obtain ⟨c0, c1, c2, c3⟩ := S4.out.st.cells
            clear hr4 hrl hrd hs4 q1 q2 q3 q4
            go_wp2_with fail
            (with_reducible refine CO.out.mono ?_)
            intro en w8 hco
            obtain ⟨rfl, ⟨o8, t8, v8, hr8, hs8⟩ | ⟨k8, t8, v8, o8, hr8, hk8, hs8⟩⟩ := hco
            · have S8 := Lib.hid ((S4.out).then hs8)
              have HRR := Lib.hid (HRD.out.2 _ _ hr8)
              clear hs8 hr8
              obtain ⟨hone, hzero, htlt⟩ := HRR.out
              have HONE := Lib.hid hone
              have HZERO := Lib.hid hzero
              clear hone hzero
              go_wp2_with fail
              go_roundg f
              case measure => omega
              case rel =>
                rcases (show x1 = 0 ∨ x1 = 1 by omega) with hx | hx
                · exact ⟨x1, f, t8, o8, v8, 0, rfl, rfl, S8.out, by omega, .inl ⟨rfl, hx, by omega, Lib.hid (by rw [← HZERO.out hx]; exact HG.out)⟩⟩
                · exact ⟨x1, f, t8, o8, v8, 0, rfl, rfl, S8.out, by omega, .inr (.inl ⟨rfl, hx, Lib.hid (by rw [← HG.out]; exact HONE.out hx)⟩)⟩
            · have S8 := Lib.hid ((S4.out).then hs8)
              have HRR := Lib.hid (HRD.out.1 _ hr8)
              have HK8 := Lib.hid hk8
              clear hs8 hr8 hk8
              have HNE := Lib.hid (show rawV B = .error k8 by rw [← HG.out]; exact HRR.out)
              go_wp2_with fail
              go_roundg f
              case measure => omega
              case rel => exact ⟨x1, f, t8, o8, v8, k8, rfl, rfl, S8.out, by omega, .inr (.inr ⟨HK8.out, HNE⟩)⟩
          · rw [hr4] at HRD
            have S4 := Lib.hid (S2.out.then hs4)
            have HRR := Lib.hid (HRD.out.1 k4 rfl)
            have f0 : (k4 == 0) = false := by rw [beq_eq_false_iff_ne]; exact hk4
            have HK4 := Lib.hid hk4
            obtain ⟨c0, c1, c2, c3⟩ := S4.out.st.cells
            clear hr4 hs4 hk4
            have HNE := Lib.hid (show rawV B = .error k4 by rw [← HG.out]; exact HRR.out)
            go_wp2_with fail
            go_roundg f
            case measure => omega
            case rel => exact ⟨x1, f, t4, o, v1, k4, rfl, rfl, S4.out, by omega, .inr (.inr ⟨HK4.out, HNE⟩)⟩
        · have HRD := Lib.hid (raw_round (f := f) (show blockV B t o = lastV (x1 == 1) (.error 3) from HBK.out) hx12)
          have FA := Lib.hid (fail_any S2.out.st 3)
          have HRR := Lib.hid (HRD.out.1 3 rfl)
          go_wp2_with fail
          (with_reducible refine FA.out.mono ?_)
          rintro en w4 ⟨rfl, hs4⟩
          have S4 := Lib.hid (S2.out.then (hs4.ef (show ef 0 3 = 3 from rfl)))
          have HK3 := Lib.hid (show (3 : Int) ≠ 0 by decide)
          clear hs4
          have HNE := Lib.hid (show rawV B = .error 3 by rw [← HG.out]; exact HRR.out)
          go_wp2_with fail
          go_roundg f
          case measure => omega
          case rel => exact ⟨x1, f, (t + 3), o, v1, 3, rfl, rfl, S4.out, by omega, .inr (.inr ⟨HK3.out, HNE⟩)⟩
    · have htb := SW.out.st.le
      go_wp2_with fail
      go_quiet (fail)
      go_wp2_with fail
      refine bodyPost_ret (v := .tuple #[v1, .int .i64 (((t : Int) + 7) / 8), .int .i64 0]) (by simp [results, Tryd.results22, go_sem]) rfl ?_
      unfold RawA
      rw [HV.out]
      refine ⟨(raw_kept KW.out SW.out.gr HBW.out).drewN _, v1, ?_, ?_, SW.out.st.len⟩
      · rw [show ((t : Int) + 7) / 8 = (((t + 7) / 8 : Nat) : Int) by omega]
      · exact (SW.out.st.own.low (by rw [HBW.out]; omega)).kept ((Kept.refl _).drewN _)
    · have f0 : (e1 == 0) = false := by rw [beq_eq_false_iff_ne]; exact he1
      have f1 : (e1 != 0) = true := by rw [bne_iff_ne]; exact he1
      clear he1
      rcases (show last = 0 ∨ last = 1 by omega) with rfl | rfl
      · skip
        go_wp2_with fail
        go_quiet (fail)
        go_wp2_with fail
        refine bodyPost_ret (v := .tuple #[.slice none 0 0, .int .i64 0, .int .i64 _]) (by simp [results, Tryd.results22, go_sem]; rfl) rfl ?_
        unfold RawA
        rw [HV.out]
        exact ⟨(raw_kept KW.out (SW.out).gr HBW.out).drewN _, rfl⟩
      · skip
        go_wp2_with fail
        go_quiet (fail)
        go_wp2_with fail
        refine bodyPost_ret (v := .tuple #[.slice none 0 0, .int .i64 0, .int .i64 _]) (by simp [results, Tryd.results22, go_sem]; rfl) rfl ?_
        unfold RawA
        rw [HV.out]
        exact ⟨(raw_kept KW.out (SW.out).gr HBW.out).drewN _, rfl⟩

end Go.Proofs.YtkobcgemllcfoaaDoor
