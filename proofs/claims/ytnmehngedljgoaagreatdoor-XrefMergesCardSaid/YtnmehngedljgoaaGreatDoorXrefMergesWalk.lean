/-
  XrefMerges: what is merged rises, has each number once, and of a number that both have the newer one; merged again it is the same.
-/
import Derived.Test.YtnmehngedljgoaaGreatDoorXrfAwake
import Derived.Test.YtnmehngedljgoaaGreatDoorXrfArgs
import Derived.Test.YtnmehngedljgoaaGreatDoorXrfThem
import Derived.Test.YtnmehngedljgoaaGreatDoorXrfEq
namespace Go.Proofs.YtnmehngedljgoaaGreatDoor
open Go.RowKit Rx
set_option linter.unusedSimpArgs false
set_option linter.unusedVariables false

set_option maxRecDepth 100000 in
set_option maxHeartbeats 8000000 in
theorem merges_long (l old : List Xent) (pa pb : Option Addr) (ca cb : Nat) (w : World) (h : Okw w) (hs : 60 < l.length ∨ 60 < old.length) :
    Calls Tryz.prog 6 #[.slice pa l.length ca, .slice pb old.length cb] w fun e w' => e = .returned (.bool true) ∧ Kept w w' := by
  obtain ⟨hm, B, hf, hB⟩ := h
  have CA := Lib.hid (awake8_any B w hm hf hB)
  clear hm hf hB
  by_cases h1 : 60 < l.length
  · have i1 : (60 : Int) < (l.length : Int) := by omega
    clear hs
    go_enter Tryz.func6, Tryz.ntmps6
    go_wp2_with fail
    (with_reducible refine CA.out.mono ?_)
    rintro e w1 ⟨rfl, hk1⟩
    go_wp2_with fail
    go_ret
    exact ⟨rfl, hk1⟩
  · have h2 : 60 < old.length := by omega
    have i1 : ¬ (60 : Int) < (l.length : Int) := by omega
    have i2 : (60 : Int) < (old.length : Int) := by omega
    clear hs
    go_enter Tryz.func6, Tryz.ntmps6
    go_wp2_with fail
    (with_reducible refine CA.out.mono ?_)
    rintro e w1 ⟨rfl, hk1⟩
    go_wp2_with fail
    go_ret
    exact ⟨rfl, hk1⟩

theorem Sl.ent {w : World} {p : Option Addr} {c : Nat} {l : List Xent} (h : Sl w p c l) : EntR w w.heap.size p l := h.1
/-- Merge, its answer told by where it lies. -/
theorem Merge_sl (a b : List Xent) (pa pb : Option Addr) (ca cb : Nat) (w : World) (ha : Sl w pa ca a) (hb : Sl w pb cb b) (hs : a.length + b.length ≤ 1099511627776) (hwf : ∀ e ∈ a ++ b, Wf e) :
    Calls Tryz.prog 21 #[.slice pa a.length ca, .slice pb b.length cb] w fun e w' => ∃ p c m, e = .returned (.slice p m.length c) ∧ IsM (a ++ b) m ∧ Sl w' p c m ∧ Kept w w' := by
  refine (Merge_any a b pa pb ca cb w ha hb hs hwf).mono ?_
  rintro e w' ⟨v, m, rfl, hm, hE, hk⟩
  obtain ⟨p, c, rfl, hS⟩ := hE.sl
  exact ⟨p, c, m, rfl, hm, hS, hk⟩
theorem theirs_sl (l : List Xent) (p : Option Addr) (c : Nat) (w : World) (h : EntR w w.heap.size p l) (hB : l.length ≤ 1099511627776) :
    Calls Tryz.prog 19 #[.slice p l.length c] w fun e w' => ∃ p' c', e = .returned (.slice p' l.length c') ∧ EntR w' w'.heap.size p' l ∧ Kept w w' := by
  refine (xtheirs_any l p c w h hB).mono ?_
  rintro e w' ⟨v, rfl, hE, hk⟩
  obtain ⟨p', c', rfl, -⟩ := hE.shape
  exact ⟨p', c', rfl, hE.entR, hk⟩

set_option maxRecDepth 100000 in
set_option maxHeartbeats 16000000 in
theorem merges_short (l old : List Xent) (pa pb : Option Addr) (ca cb : Nat) (w : World) (h : Okw w) (ha : Sl w pa ca l) (hb : Sl w pb cb old) (wa : ∀ e ∈ l, Wf e) (wb : ∀ e ∈ old, Wf e) (h60 : l.length ≤ 60) (h61 : old.length ≤ 60) :
    Calls Tryz.prog 6 #[.slice pa l.length ca, .slice pb old.length cb] w fun e w' => e = .returned (.bool true) ∧ Kept w w' := by
  obtain ⟨hm, B, hf, hB⟩ := h
  have CA := Lib.hid (awake8_any B w hm hf hB)
  have SA := Lib.hid ha
  have SB := Lib.hid hb
  have WA := Lib.hid wa
  have WB := Lib.hid wb
  clear hm hf hB ha hb wa wb
  have i1 : ¬ (60 : Int) < (l.length : Int) := by omega
  have i2 : ¬ (60 : Int) < (old.length : Int) := by omega
  go_enter Tryz.func6, Tryz.ntmps6
  go_wp2_with fail
  (with_reducible refine CA.out.mono ?_)
  rintro e w1 ⟨rfl, hk1⟩
  have K1 := Lib.hid hk1
  clear hk1
  go_wp2_with fail
  (with_reducible refine (Merge_sl l old pa pb ca cb w1 (SA.out.see K1.out) (SB.out.see K1.out) (by omega) (fun e he => (List.mem_append.1 he).elim (WA.out e) (WB.out e))).mono ?_)
  rintro e w2 ⟨pm, cm, m, rfl, hM, hS2, hk2⟩
  have K2 := Lib.hid (K1.out.trans hk2)
  have HM := Lib.hid hM
  have SM := Lib.hid hS2
  have hml : m.length ≤ l.length + old.length := by have := isM_len hM; rwa [List.length_append] at this
  clear hM hS2 hk2
  go_wp2_with fail
  go_loopg [7] (m.length + 1) (fun x y wr => ∃ j : Nat, x = m.length + 1 - j ∧ (j + 1 ≤ m.length ∨ j = 0) ∧ y = .int .i64 ((j : Int) + 1) ∧ Kept w2 wr)
  case atStart => exact ⟨0, rfl, .inr rfl, rfl, Kept.refl w2⟩
  case round =>
    obtain ⟨j, hx, hj, rfl, hk⟩ := hrel
    have KR := Lib.hid hk
    clear hk
    by_cases hlt : j + 1 < m.length
    · have j1 : (j : Int) + 1 < (m.length : Int) := by omega
      have j2 : (0 : Int) ≤ (j : Int) + 1 := by omega
      have j3 : (j : Int) < (m.length : Int) := by omega
      obtain ⟨kb, o, hp, -, c0, -⟩ := (SM.out.see KR.out).1 j (by omega)
      obtain ⟨kb', o', hp', -, d0, -⟩ := (SM.out.see KR.out).1 (j + 1) hlt
      rw [hp] at hp'
      injection hp' with hp'
      injection hp' with e1 e2
      subst e1 e2 hp
      have hrise : m[j].n < m[j + 1].n := rise_get HM.out.1 (Nat.lt_succ_self j) hlt
      obtain ⟨x0, hx0⟩ : ∃ x0, x0 = m[j].n := ⟨_, rfl⟩
      obtain ⟨x1, hx1⟩ : ∃ x1, x1 = m[j + 1].n := ⟨_, rfl⟩
      rw [← hx0] at c0 hrise
      rw [← hx1] at d0 hrise
      have hr2 : ¬ (x1 ≤ x0) := by omega
      clear hx0 hx1
      go_wp2_with fail
      go_quiet (fail)
      go_wp2_with fail
      go_roundg (m.length + 1 - (j + 1))
      case measure => omega
      case rel => exact ⟨j + 1, rfl, .inl (by omega), by go_num, KR.out.drewN _⟩
    · have j1 : ¬ (j : Int) + 1 < (m.length : Int) := by omega
      have KW := Lib.hid (K2.out.trans KR.out)
      have CN := Lib.hid (show Calls Tryz.prog 21 #[.slice pa l.length ca, .slice none 0 0] wr fun e w' => ∃ p c n, e = .returned (.slice p n.length c) ∧ IsM l n ∧ Sl w' p c n ∧ Kept wr w' from by
        have := Merge_sl l [] pa none ca 0 wr (SA.out.see KW.out) ⟨EntR.none _ _ _, fun _ => rfl, Nat.le_refl _⟩ (by simp; omega) (fun e he => WA.out e (by simpa using he))
        rwa [List.append_nil] at this)
      go_wp2_with fail
      (with_reducible refine CN.out.mono ?_)
      rintro e w3 ⟨pn, cn, n, rfl, hN, hS3, hk3⟩
      have K3 := Lib.hid (KR.out.trans hk3)
      have HN := Lib.hid hN
      have SN := Lib.hid hS3
      have hnl : n.length ≤ l.length := isM_len hN
      clear hN hS3 hk3 CN KW j1
      go_wp2_with fail
      go_loopg [9] (n.length + 1) (fun x y wr => ∃ i : Nat, x = n.length + 1 - i ∧ i ≤ n.length ∧ y = .int .i64 i ∧ Kept w3 wr)
      case atStart => exact ⟨0, rfl, Nat.zero_le _, rfl, Kept.refl w3⟩
      case round =>
        obtain ⟨i, hxi, hi, rfl, hk⟩ := hrel
        have KI := Lib.hid hk
        clear hk
        by_cases hlt : i < n.length
        · have j1 : (i : Int) < (n.length : Int) := by omega
          obtain ⟨t, ht⟩ : ∃ t, t = n[i] := ⟨_, rfl⟩
          have htm : t ∈ m := isM_newer HM.out HN.out (by rw [ht]; exact List.getElem_mem hlt)
          go_wp2_with fail
          go_loopg [10, 11] (m.length + 1) (fun x bv y wr => ∃ k : Nat, x = m.length + 1 - k ∧ k ≤ m.length ∧ y = .int .i64 k ∧ bv = .bool (decide (t ∈ m.take k)) ∧ Kept w3 wr)
          case atStart => exact ⟨0, rfl, Nat.zero_le _, rfl, by simp, KI.out⟩
          case round =>
            obtain ⟨k, hxk, hkl, rfl, rfl, hk⟩ := hrel
            have KK := Lib.hid hk
            clear hk
            by_cases hlk : k < m.length
            · have j3 : (k : Int) < (m.length : Int) := by omega
              obtain ⟨kb, o, hp, -, c0, c1, c2, c3⟩ := (SM.out.see (K3.out.trans KK.out)).1 k hlk
              obtain ⟨kc, o', hp', -, d0, d1, d2, d3⟩ := (SN.out.see KK.out).1 i hlt
              subst hp hp'
              rw [← ht] at d0 d1 d2 d3
              have hst : (decide (t ∈ m.take (k + 1))) = (decide (t ∈ m.take k) || decide (t = m[k])) := by
                rw [List.take_succ_eq_append_getElem hlk, ← Bool.decide_or]
                apply decide_eq_decide.2
                rw [List.mem_append, List.mem_singleton]
              have HST := Lib.hid hst
              obtain ⟨y, hy⟩ : ∃ y, y = m[k] := ⟨_, rfl⟩
              rw [← hy] at c0 c1 c2 c3 HST
              clear hst hy ht htm
              obtain ⟨bb, hbb⟩ : ∃ bb, bb = decide (t ∈ m.take k) := ⟨_, rfl⟩
              rw [← hbb] at HST ⊢
              clear hbb
              have ke := eql_xent y t
              cases bb
              · go_wp2_with fail
                go_quiet (fail)
                go_wp2_with fail
                go_roundg (m.length + 1 - (k + 1))
                case measure => omega
                case rel => exact ⟨k + 1, rfl, by omega, by go_num, by rw [HST.out]; rfl, KK.out.drewN _⟩
              · go_wp2_with fail
                go_quiet (fail)
                go_wp2_with fail
                go_roundg (m.length + 1 - (k + 1))
                case measure => omega
                case rel => exact ⟨k + 1, rfl, by omega, by go_num, by rw [HST.out]; rfl, KK.out.drewN _⟩
            · have j3 : ¬ (k : Int) < (m.length : Int) := by omega
              obtain rfl : k = m.length := by omega
              have HB := Lib.hid (show decide (t ∈ m.take m.length) = true by rw [List.take_length]; exact decide_eq_true htm)
              rw [HB.out]
              go_wp2_with fail
              go_roundg (n.length + 1 - (i + 1))
              case measure => omega
              case rel => exact ⟨i + 1, rfl, by omega, by go_num, KK.out⟩
        · have j1 : ¬ (i : Int) < (n.length : Int) := by omega
          have KX := Lib.hid (K3.out.trans KI.out)
          have KW := Lib.hid (K2.out.trans KX.out)
          have hmw : ∀ e ∈ m, Wf e := fun e he => (List.mem_append.1 (isM_mem HM.out he)).elim (WA.out e) (WB.out e)
          have CM1 := Lib.hid (show ∀ W, Kept w W → Kept w2 W → Calls Tryz.prog 21 #[.slice pm m.length cm, .slice pb old.length cb] W fun e w' => ∃ p c, e = .returned (.slice p m.length c) ∧ Sl w' p c m ∧ Kept W w' from fun W k k2 => by
            refine (Merge_sl m old pm pb cm cb W (SM.out.see k2) (SB.out.see k) (by omega) (fun e he => (List.mem_append.1 he).elim (hmw e) (WB.out e))).mono ?_
            rintro e w' ⟨p, c, m', rfl, h1, h2, h3⟩
            have := isM_one h1 (isM_again old HM.out (fun e he => List.mem_append.2 (.inr he)))
            subst this
            exact ⟨p, c, rfl, h2, h3⟩)
          have CM2 := Lib.hid (show ∀ W, Kept w W → Kept w2 W → Calls Tryz.prog 21 #[.slice pm m.length cm, .slice pa l.length ca] W fun e w' => ∃ p c, e = .returned (.slice p m.length c) ∧ Sl w' p c m ∧ Kept W w' from fun W k k2 => by
            refine (Merge_sl m l pm pa cm ca W (SM.out.see k2) (SA.out.see k) (by omega) (fun e he => (List.mem_append.1 he).elim (hmw e) (WA.out e))).mono ?_
            rintro e w' ⟨p, c, m', rfl, h1, h2, h3⟩
            have := isM_one h1 (isM_again l HM.out (fun e he => List.mem_append.2 (.inl he)))
            subst this
            exact ⟨p, c, rfl, h2, h3⟩)
          have j2 : (m.length : Int) ≤ (l.length : Int) + (old.length : Int) := by omega
          have hm40 : m.length ≤ 1099511627776 := by omega
          clear hmw
          go_wp2_with fail
          (with_reducible refine (CM1.out _ KW.out KX.out).mono ?_)
          rintro e w4 ⟨p4, c4, rfl, hS4, hk4⟩
          have S4 := Lib.hid hS4
          have X4 := Lib.hid (KX.out.trans hk4)
          have W4 := Lib.hid (KW.out.trans hk4)
          clear hS4 hk4
          go_wp2_with fail
          (with_reducible refine (theirs_sl m p4 c4 w4 S4.out.ent hm40).mono ?_)
          rintro e w5 ⟨p5, c5, rfl, hE5, hk5⟩
          have E5 := Lib.hid hE5
          have X5 := Lib.hid (X4.out.trans hk5)
          have W5 := Lib.hid (W4.out.trans hk5)
          clear hE5 hk5
          go_wp2_with fail
          (with_reducible refine (theirs_sl m pm cm w5 (SM.out.see X5.out).ent hm40).mono ?_)
          rintro e w6 ⟨p6, c6, rfl, hE6, hk6⟩
          have E6 := Lib.hid hE6
          have E5' := Lib.hid (E5.out.see hk6)
          have X6 := Lib.hid (X5.out.trans hk6)
          have W6 := Lib.hid (W5.out.trans hk6)
          clear hE6 hk6
          go_wp2_with fail
          (with_reducible refine (refSame_any m p5 p6 c5 c6 w6 E5'.out E6.out hm40).mono ?_)
          rintro e w7 ⟨rfl, hk7⟩
          have X7 := Lib.hid (X6.out.trans hk7)
          have W7 := Lib.hid (W6.out.trans hk7)
          clear hk7
          go_wp2_with fail
          (with_reducible refine (CM2.out _ W7.out X7.out).mono ?_)
          rintro e w8 ⟨p8, c8, rfl, hS8, hk8⟩
          have S8 := Lib.hid hS8
          have X8 := Lib.hid (X7.out.trans hk8)
          have W8 := Lib.hid (W7.out.trans hk8)
          clear hS8 hk8
          go_wp2_with fail
          (with_reducible refine (theirs_sl m p8 c8 w8 S8.out.ent hm40).mono ?_)
          rintro e w9 ⟨p9, c9, rfl, hE9, hk9⟩
          have E9 := Lib.hid hE9
          have X9 := Lib.hid (X8.out.trans hk9)
          have W9 := Lib.hid (W8.out.trans hk9)
          clear hE9 hk9
          go_wp2_with fail
          (with_reducible refine (theirs_sl m pm cm w9 (SM.out.see X9.out).ent hm40).mono ?_)
          rintro e w10 ⟨p10, c10, rfl, hE10, hk10⟩
          have E10 := Lib.hid hE10
          have E9' := Lib.hid (E9.out.see hk10)
          have W10 := Lib.hid (W9.out.trans hk10)
          clear hE10 hk10
          go_wp2_with fail
          (with_reducible refine (refSame_any m p9 p10 c9 c10 w10 E9'.out E10.out hm40).mono ?_)
          rintro e w11 ⟨rfl, hk11⟩
          have W11 := Lib.hid (W10.out.trans hk11)
          clear hk11
          go_wp2_with fail
          go_ret
          exact ⟨rfl, W11.out⟩

theorem XrefMerges_walk (va : Value) (l : List Xent) (vb : Value) (old : List Xent) (w : World) (h : Okw w) (ha : EntArg w va l) (hb : EntArg w vb old) :
    Calls Tryz.prog 6 #[va, vb] w fun e w' => e = .returned (.bool true) ∧ Kept w w' := by
  obtain ⟨pa, ca, rfl, sa, -, wa⟩ := ha
  obtain ⟨pb, cb, rfl, sb, -, wb⟩ := hb
  by_cases hs : 60 < l.length ∨ 60 < old.length
  · exact merges_long l old pa pb ca cb w h hs
  · exact merges_short l old pa pb ca cb w h sa sb (fun e he => (wa e he).1) (fun e he => (wb e he).1) (by omega) (by omega)

end Go.Proofs.YtnmehngedljgoaaGreatDoor
