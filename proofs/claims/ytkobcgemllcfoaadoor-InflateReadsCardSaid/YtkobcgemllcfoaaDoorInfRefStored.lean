/-
  The reference's stored and fixed.
-/
import Derived.Test.YtkobcgemllcfoaaDoorInfRefCoded
namespace Go.Proofs.YtkobcgemllcfoaaDoor
open Go.RowKit Ix
set_option linter.unusedSimpArgs false
set_option linter.unusedVariables false

theorem storedV_no {B : List UInt8} {t : Nat} {out : List UInt8} (h : ¬ up8 t + 32 ≤ 8 * B.length) : storedV B t out = .error 4 := by unfold storedV; rw [if_neg h]
theorem stored_step (B : List UInt8) (n t : Nat) (out : List UInt8) (h : t / 8 ≠ B.length) : (∀ k, putV' out (B.getD (t / 8) 0) = .error k → storedGo B (n + 1) t out = .error k) ∧ ∀ o, putV' out (B.getD (t / 8) 0) = .ok o → storedGo B (n + 1) t out = storedGo B n (t + 8) o := by
  constructor
  · intro k hk; rw [storedGo, if_neg h, hk]
  · intro o ho; rw [storedGo, if_neg h, ho]
theorem SwR.ef {w : World} {B0 b : Nat} {p : Option Addr} {c : Nat} {B : List UInt8} {v : Value} {w' : World} {t' : Nat} {v' : Value} {out' : List UInt8} {e e' : Int} (h : SwR w B0 b p c B v w' t' v' out' e) (he : e = e') : SwR w B0 b p c B v w' t' v' out' e' := he ▸ h

set_option maxRecDepth 100000 in
set_option maxHeartbeats 4000000 in
theorem refStored_any {w : World} {B0 b : Nat} {p : Option Addr} {c : Nat} {B : List UInt8} {t : Nat} {v : Value} {out : List UInt8} (h : Sw w B0 b p c B t v out 0) (hB : B.length ≤ 1099511627776) :
    Calls Tryd.prog 47 #[.pointer (some ⟨b, 0, none⟩)] w (CopA w B0 b p c B v (storedV B t out)) := by
  have HS := Lib.hid h
  have htl := h.le
  obtain ⟨c0, c1, c2, c3⟩ := h.cells
  have hf := h.blk.free
  obtain ⟨U, hU⟩ : ∃ U, U = up8 t := ⟨_, rfl⟩
  have hUt : U = (t + 7) / 8 * 8 := hU
  have hU8 : U ≤ 8 * B.length := by omega
  have HU := Lib.hid hU
  have HW0 := Lib.hid (SwR.setT (SwR.refl h) (((t : Int) + 7) / 8 * 8) (t2 := U) (by omega) hU8)
  have hU0 : U % 8 = 0 := by omega
  clear h hU hUt
  go_enter Tryd.func47, Tryd.ntmps47
  go_wp2_with fail
  have B1 := Lib.hid (bits_lit 16 16 rfl HW0.out.st (by decide) hB)
  (with_reducible refine B1.out.mono ?_)
  intro en w1 hb1
  rcases hb1 with ⟨hle1, rfl, hs1⟩ | ⟨hle1, rfl, hs1⟩
  rotate_left
  · have HV := Lib.hid (storedV_no (out := out) (show ¬ up8 t + 32 ≤ 8 * B.length by rw [← HU.out]; omega))
    have HR1 := Lib.hid (HW0.out.then (hs1.ef (show ef 0 4 = 4 from rfl)))
    have B2 := Lib.hid (bits_lit 16 16 rfl HR1.out.st (by decide) hB)
    clear hs1
    go_wp2_with fail
    (with_reducible refine B2.out.mono ?_)
    intro en w2 hb2
    rcases hb2 with ⟨hle2, rfl, hs2⟩ | ⟨hle2, rfl, hs2⟩
    · exact absurd hle2 (by omega)
    · have HR2 := Lib.hid (HR1.out.then (hs2.ef (show ef 4 4 = 4 from rfl)))
      obtain ⟨c0, c1, c2, c3⟩ := HR2.out.st.cells
      clear hs2
      go_wp2_with fail
      go_loopg [4] 1 (fun m iv wr => m = 1 ∧ iv = .int .i64 0 ∧ wr = w2)
      case atStart => exact ⟨rfl, rfl, rfl⟩
      case round =>
        obtain ⟨hm, rfl, rfl⟩ := hrel
        go_wp2_with fail
        refine bodyPost_end (results_none rfl _ _ _) rfl ?_
        exact copA_no HV.out (by decide) HR2.out
  · have HR1 := Lib.hid (HW0.out.then hs1)
    have B2 := Lib.hid (bits_lit 16 16 rfl HR1.out.st (by decide) hB)
    have hn16 := numAt_16 B U 16 (by decide)
    obtain ⟨n, hn⟩ : ∃ n, n = numAt B 16 U := ⟨_, rfl⟩
    have HN := Lib.hid hn
    rw [← hn] at hn16 ⊢
    clear hs1 hn
    go_wp2_with fail
    (with_reducible refine B2.out.mono ?_)
    intro en w2 hb2
    rcases hb2 with ⟨hle2, rfl, hs2⟩ | ⟨hle2, rfl, hs2⟩
    rotate_left
    · have HV := Lib.hid (storedV_no (out := out) (show ¬ up8 t + 32 ≤ 8 * B.length by rw [← HU.out]; omega))
      have HR2 := Lib.hid (HR1.out.then (hs2.ef (show ef 0 4 = 4 from rfl)))
      obtain ⟨c0, c1, c2, c3⟩ := HR2.out.st.cells
      clear hs2
      go_wp2_with fail
      go_loopg [4] 1 (fun m iv wr => m = 1 ∧ iv = .int .i64 0 ∧ wr = w2)
      case atStart => exact ⟨rfl, rfl, rfl⟩
      case round =>
        obtain ⟨hm, rfl, rfl⟩ := hrel
        by_cases hpos : (0 : Int) < (n : Int)
        · go_wp2_with fail
          refine bodyPost_end (results_none rfl _ _ _) rfl ?_
          exact copA_no HV.out (by decide) HR2.out
        · go_wp2_with fail
          refine bodyPost_end (results_none rfl _ _ _) rfl ?_
          exact copA_no HV.out (by decide) HR2.out
    · have HR2 := Lib.hid (HR1.out.then hs2)
      have hm16 := numAt_16 B (U + 16) 16 (by decide)
      obtain ⟨m, hm⟩ : ∃ m, m = numAt B 16 (U + 16) := ⟨_, rfl⟩
      have HSV := Lib.hid (show storedV B t out = if n + m = 65535 then storedGo B n (U + 32) out else .error 3 by
        unfold storedV
        rw [← HU.out, if_pos (by omega), ← HN.out, ← hm])
      rw [← hm] at hm16 ⊢
      obtain ⟨c0, c1, c2, c3⟩ := HR2.out.st.cells
      clear hs2 hm
      by_cases hsum : n + m = 65535
      · have g0 : ((n : Int) + (m : Int) != 65535) = false := by rw [bne_eq_false_iff_eq]; omega
        have HV := Lib.hid (HSV.out.trans (if_pos hsum))
        clear hsum
        go_wp2_with fail
        clear c0 c1 c2 c3
        go_loopg [4] (n + 2) (fun mm iv wr => ∃ (i tt : Nat) (o : List UInt8) (v1 : Value) (e1 : Int), mm = n + 2 - i ∧ i ≤ n + 1 ∧ iv = .int .i64 i ∧ SwR w B0 b p c B v wr tt v1 o e1 ∧ ((e1 = 0 ∧ i ≤ n ∧ tt = U + 32 + 8 * i ∧ Hid (storedGo B (n - i) tt o = storedGo B n (U + 32) out)) ∨ (e1 ≠ 0 ∧ Hid (storedGo B n (U + 32) out = .error e1))))
        case atStart => exact ⟨0, U + 32, out, v, 0, rfl, Nat.zero_le _, rfl, HR2.out, .inl ⟨rfl, Nat.zero_le _, rfl, Lib.hid rfl⟩⟩
        case round =>
          obtain ⟨i, tt, o, v1, e1, hmm, hi, rfl, hs, hst⟩ := hrel
          have HR7 := Lib.hid hs
          obtain ⟨c0, c1, c2, c3⟩ := hs.st.cells
          clear hs
          rcases hst with ⟨rfl, hin, htt, HG⟩ | ⟨he1, HG⟩
          · have HTT := Lib.hid htt
            have htt0 : tt % 8 = 0 := by omega
            have httl := HR7.out.st.le
            clear htt
            by_cases hlt : i < n
            · have s5 : (i : Int) < (n : Int) := by omega
              obtain ⟨nn, hnn⟩ : ∃ nn, n - i = nn + 1 := ⟨n - i - 1, by omega⟩
              have HNN := Lib.hid hnn
              have B3 := Lib.hid (bits_lit 8 8 rfl HR7.out.st (by decide) hB)
              clear hnn
              go_wp2_with fail
              (with_reducible refine B3.out.mono ?_)
              intro en w8 hb8
              rcases hb8 with ⟨hle8, rfl, hs8⟩ | ⟨hle8, rfl, hs8⟩
              · have HR8 := Lib.hid (HR7.out.then hs8)
                obtain ⟨c0, c1, c2, c3⟩ := HR8.out.st.cells
                have hn8 := num8 B (tt / 8)
                rw [show 8 * (tt / 8) = tt by omega] at hn8
                rw [hn8]
                obtain ⟨x, hx⟩ : ∃ x, x = B.getD (tt / 8) 0 := ⟨_, rfl⟩
                rw [← hx]
                have HST := Lib.hid (stored_step B nn tt o (by omega))
                rw [← hx] at HST
                have PU := Lib.hid (refPut_any HR8.out.st x)
                have hx256 := x.toNat_lt
                obtain ⟨y, hy⟩ : ∃ y, y = x.toNat := ⟨_, rfl⟩
                rw [← hy] at PU hx256 ⊢
                have hcv : (y : Int) % 256 = (y : Int) := by omega
                clear hs8 hn8 hx hy
                go_wp2_with fail
                (with_reducible refine PU.out.mono ?_)
                intro en w9 hput
                obtain ⟨rfl, hp9 | ⟨hp9, v9, hs9⟩⟩ := hput
                · have HN9 := Lib.hid (show storedGo B n (U + 32) out = .error 6 by rw [← HG.out, HNN.out]; exact HST.out.1 6 hp9.1)
                  have HR9 := Lib.hid (HR8.out.then (hp9.2.ef (show ef 0 6 = 6 from rfl)))
                  clear hp9
                  go_wp2_with fail
                  go_roundg (n + 2 - (i + 1))
                  case measure => omega
                  case rel => exact ⟨i + 1, _, o, v1, 6, rfl, by omega, by go_num, HR9.out, .inr ⟨by decide, HN9⟩⟩
                · have HN9 := Lib.hid (show storedGo B (n - (i + 1)) (tt + 8) (o ++ [x]) = storedGo B n (U + 32) out by
                    rw [← HG.out, HNN.out, HST.out.2 _ hp9]
                    have := HNN.out
                    rw [show n - (i + 1) = nn by omega])
                  have HR9 := Lib.hid (HR8.out.then hs9)
                  clear hp9 hs9
                  go_wp2_with fail
                  go_roundg (n + 2 - (i + 1))
                  case measure => omega
                  case rel => exact ⟨i + 1, _, o ++ [x], v9, 0, rfl, by omega, by go_num, HR9.out, .inl ⟨rfl, by omega, by have := HTT.out; omega, HN9⟩⟩
              · have HN9 := Lib.hid (show storedGo B n (U + 32) out = .error 4 by rw [← HG.out, HNN.out, storedGo, if_pos (by omega)])
                have HR8 := Lib.hid (HR7.out.then (hs8.ef (show ef 0 4 = 4 from rfl)))
                obtain ⟨c0, c1, c2, c3⟩ := HR8.out.st.cells
                clear hs8
                go_wp2_with fail
                go_roundg (n + 2 - (i + 1))
                case measure => omega
                case rel => exact ⟨i + 1, _, o, v1, 4, rfl, by omega, by go_num, HR8.out, .inr ⟨by decide, HN9⟩⟩
            · obtain rfl : i = n := by omega
              have HF := Lib.hid (show storedV B t out = .ok (o, tt) by rw [HV.out, ← HG.out, Nat.sub_self]; rfl)
              go_wp2_with fail
              refine bodyPost_end (results_none rfl _ _ _) rfl ?_
              exact ⟨rfl, .inl ⟨o, _, v1, HF.out, HR7.out⟩⟩
          · have HF := Lib.hid (HV.out.trans HG.out)
            have f0 : (e1 == 0) = false := by rw [beq_eq_false_iff_ne]; exact he1
            have HE1 := Lib.hid he1
            clear he1
            by_cases hlt : (i : Int) < (n : Int)
            · go_wp2_with fail
              refine bodyPost_end (results_none rfl _ _ _) rfl ?_
              exact copA_no HF.out HE1.out HR7.out
            · go_wp2_with fail
              refine bodyPost_end (results_none rfl _ _ _) rfl ?_
              exact copA_no HF.out HE1.out HR7.out
      · have g0 : ((n : Int) + (m : Int) != 65535) = true := by rw [bne_iff_ne]; omega
        have HV := Lib.hid (HSV.out.trans (if_neg hsum))
        have FA := Lib.hid (fail_any HR2.out.st 3)
        clear hsum
        go_wp2_with fail
        (with_reducible refine FA.out.mono ?_)
        rintro en w3 ⟨rfl, hs3⟩
        have HR3 := Lib.hid (HR2.out.then (hs3.ef (show ef 0 3 = 3 from rfl)))
        obtain ⟨c0, c1, c2, c3⟩ := HR3.out.st.cells
        clear hs3
        go_wp2_with fail
        go_loopg [4] 1 (fun m iv wr => m = 1 ∧ iv = .int .i64 0 ∧ wr = w3)
        case atStart => exact ⟨rfl, rfl, rfl⟩
        case round =>
          obtain ⟨hm, rfl, rfl⟩ := hrel
          by_cases hpos : (0 : Int) < (n : Int)
          · go_wp2_with fail
            refine bodyPost_end (results_none rfl _ _ _) rfl ?_
            exact copA_no HV.out (by decide) HR3.out
          · go_wp2_with fail
            refine bodyPost_end (results_none rfl _ _ _) rfl ?_
            exact copA_no HV.out (by decide) HR3.out

theorem fixS_step (i : Nat) (h : i < 288) : fixS.take (i + 1) = fixS.take i ++ [if 144 ≤ i ∧ i < 256 then 9 else if 256 ≤ i ∧ i < 280 then 7 else 8] := by
  have key : (List.range 288).all (fun i => fixS[i]? == some (if 144 ≤ i ∧ i < 256 then 9 else if 256 ≤ i ∧ i < 280 then 7 else 8)) = true := by kernel_rfl
  have h1 := List.all_eq_true.1 key i (List.mem_range.2 h)
  rw [beq_iff_eq] at h1
  have hl : i < fixS.length := (List.getElem?_eq_some_iff.1 h1).1
  rw [List.take_succ_eq_append_getElem hl]
  rw [List.getElem?_eq_getElem hl] at h1
  rw [Option.some.inj h1]
theorem fixD_step (i : Nat) (h : i < 32) : fixD.take (i + 1) = fixD.take i ++ [5] := by
  unfold fixD
  rw [List.take_replicate, List.take_replicate, Nat.min_eq_left (by omega), Nat.min_eq_left (by omega), List.replicate_succ']

set_option maxRecDepth 100000 in
set_option maxHeartbeats 4000000 in
theorem refFixed_any (w : World) : Calls Tryd.prog 48 #[] w fun en w' => ∃ lv dv, en = .returned (.tuple #[lv, dv]) ∧ Nums w' w.heap.size lv fixS ∧ Nums w' w.heap.size dv fixD ∧ Kept w w' := by
  go_enter Tryd.func48, Tryd.ntmps48
  go_wp2_with fail
  go_loopg [2, 3] 289 (fun m lv iv wr => ∃ i, m = 289 - i ∧ i ≤ 288 ∧ iv = .int .i64 i ∧ Nums wr w.heap.size lv (fixS.take i) ∧ Kept w wr)
  case atStart => exact ⟨0, rfl, Nat.zero_le _, rfl, World.ownsRow_nil _ _ _ _, Kept.refl _⟩
  case round =>
    obtain ⟨i, hm, hi, rfl, hn, hk⟩ := hrel
    have NU := Lib.hid hn
    have KK := Lib.hid hk
    have hws := Below.size hk
    have hlt0 : (fixS.take i).length = i := by rw [List.length_take, show fixS.length = 288 by kernel_rfl]; omega
    have HLT := Lib.hid hlt0
    clear hn hk hlt0
    by_cases hlt : i < 288
    · have HST := Lib.hid (fixS_step i hlt)
      have g9 : (i : Int) < 288 := by omega
      by_cases h1 : i < 144
      · have g1 : ¬ (144 : Int) ≤ (i : Int) := by omega
        have g2 : ¬ (256 : Int) ≤ (i : Int) := by omega
        go_wp2_with (at_builtin; refine wpList_app_nums rfl _ _ rfl NU.out rfl [8] _ rfl 1 rfl (by decide) rfl hws (by rw [HLT.out]; omega) ?_; intro g2 cap2 w2 hn2 hg2; rw [HLT.out] at hn2 ⊢; have N2 := Lib.hid hn2; have K2 := Lib.hid (show Kept w w2 from Below.grown (KK.out.allocO _) hg2 (by simp; omega) (fun x hx => (World.ownsRow.lt NU.out x hx).1)); clear hn2 hg2)
        go_roundg (289 - (i + 1))
        case measure => omega
        case rel =>
          have z := HST.out
          rw [if_neg (by omega), if_neg (by omega)] at z
          exact ⟨i + 1, rfl, by omega, by go_num, by rw [z]; exact N2.out, K2.out⟩
      by_cases h2 : i < 256
      · have g1 : (144 : Int) ≤ (i : Int) := by omega
        have g2 : (i : Int) < 256 := by omega
        have g3 : ¬ (256 : Int) ≤ (i : Int) := by omega
        go_wp2_with (at_builtin; refine wpList_app_nums rfl _ _ rfl NU.out rfl [9] _ rfl 1 rfl (by decide) rfl hws (by rw [HLT.out]; omega) ?_; intro g2 cap2 w2 hn2 hg2; rw [HLT.out] at hn2 ⊢; have N2 := Lib.hid hn2; have K2 := Lib.hid (show Kept w w2 from Below.grown (KK.out.allocO _) hg2 (by simp; omega) (fun x hx => (World.ownsRow.lt NU.out x hx).1)); clear hn2 hg2)
        go_roundg (289 - (i + 1))
        case measure => omega
        case rel =>
          have z := HST.out
          rw [if_pos (by omega)] at z
          exact ⟨i + 1, rfl, by omega, by go_num, by rw [z]; exact N2.out, K2.out⟩
      by_cases h3 : i < 280
      · have g1 : (144 : Int) ≤ (i : Int) := by omega
        have g2 : ¬ (i : Int) < 256 := by omega
        have g3 : (256 : Int) ≤ (i : Int) := by omega
        have g4 : (i : Int) < 280 := by omega
        go_wp2_with (at_builtin; refine wpList_app_nums rfl _ _ rfl NU.out rfl [7] _ rfl 1 rfl (by decide) rfl hws (by rw [HLT.out]; omega) ?_; intro g2 cap2 w2 hn2 hg2; rw [HLT.out] at hn2 ⊢; have N2 := Lib.hid hn2; have K2 := Lib.hid (show Kept w w2 from Below.grown (KK.out.allocO _) hg2 (by simp; omega) (fun x hx => (World.ownsRow.lt NU.out x hx).1)); clear hn2 hg2)
        go_roundg (289 - (i + 1))
        case measure => omega
        case rel =>
          have z := HST.out
          rw [if_neg (by omega), if_pos (by omega)] at z
          exact ⟨i + 1, rfl, by omega, by go_num, by rw [z]; exact N2.out, K2.out⟩
      · have g1 : (144 : Int) ≤ (i : Int) := by omega
        have g2 : ¬ (i : Int) < 256 := by omega
        have g3 : (256 : Int) ≤ (i : Int) := by omega
        have g4 : ¬ (i : Int) < 280 := by omega
        go_wp2_with (at_builtin; refine wpList_app_nums rfl _ _ rfl NU.out rfl [8] _ rfl 1 rfl (by decide) rfl hws (by rw [HLT.out]; omega) ?_; intro g2 cap2 w2 hn2 hg2; rw [HLT.out] at hn2 ⊢; have N2 := Lib.hid hn2; have K2 := Lib.hid (show Kept w w2 from Below.grown (KK.out.allocO _) hg2 (by simp; omega) (fun x hx => (World.ownsRow.lt NU.out x hx).1)); clear hn2 hg2)
        go_roundg (289 - (i + 1))
        case measure => omega
        case rel =>
          have z := HST.out
          rw [if_neg (by omega), if_neg (by omega)] at z
          exact ⟨i + 1, rfl, by omega, by go_num, by rw [z]; exact N2.out, K2.out⟩
    · obtain rfl : i = 288 := by omega
      obtain ⟨q, hq⟩ : ∃ q, q = w.heap.size := ⟨_, rfl⟩
      have HQ := Lib.hid hq
      have NS := Lib.hid (show Nums wr w.heap.size _ fixS from NU.out)
      obtain ⟨W1, hW1⟩ : ∃ W1, W1 = wr := ⟨_, rfl⟩
      subst hW1
      clear hq
      go_wp2_with fail
      go_loopg [5, 6] 33 (fun m dv iv w2 => ∃ i, m = 33 - i ∧ i ≤ 32 ∧ iv = .int .i64 i ∧ Nums w2 W1.heap.size dv (fixD.take i) ∧ Kept W1 w2)
      case atStart => exact ⟨0, rfl, Nat.zero_le _, rfl, World.ownsRow_nil _ _ _ _, Kept.refl _⟩
      case round =>
        obtain ⟨i, hm, hi, rfl, hn, hk⟩ := hrel
        have ND := Lib.hid hn
        have KD := Lib.hid hk
        have hws := Below.size hk
        have hlt0 : (fixD.take i).length = i := by rw [List.length_take, show fixD.length = 32 by kernel_rfl]; omega
        have HLT := Lib.hid hlt0
        clear hn hk hlt0
        by_cases hlt : i < 32
        · have HST := Lib.hid (fixD_step i hlt)
          go_wp2_with (at_builtin; refine wpList_app_nums rfl _ _ rfl ND.out rfl [5] _ rfl 1 rfl (by decide) rfl hws (by rw [HLT.out]; omega) ?_; intro g2 cap2 w2 hn2 hg2; rw [HLT.out] at hn2 ⊢; have N2 := Lib.hid hn2; have K2 := Lib.hid (show Kept W1 w2 from Below.grown (KD.out.allocO _) hg2 (by simp; omega) (fun x hx => (World.ownsRow.lt ND.out x hx).1)); clear hn2 hg2)
          go_roundg (33 - (i + 1))
          case measure => omega
          case rel => exact ⟨i + 1, rfl, by omega, by go_num, by rw [HST.out]; exact N2.out, K2.out⟩
        · obtain rfl : i = 32 := by omega
          go_wp2_with fail
          go_ret2
          refine ⟨_, _, rfl, NS.out.kept KD.out, ?_, KK.out.trans KD.out⟩
          have z := ND.out
          exact ⟨z.1, z.2.imp id (fun ⟨g, cap, cur, h1, h2, h3⟩ => ⟨g, cap, cur, h1, Nat.le_trans (Below.size KK.out) h2, h3⟩)⟩

end Go.Proofs.YtkobcgemllcfoaaDoor
