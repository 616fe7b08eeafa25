/-
  XrefBack: entries that are written, with a trailer behind them, are read as they were.
-/
import Derived.Test.YtnmehngedljgoaaGreatDoorXrfAwake
import Derived.Test.YtnmehngedljgoaaGreatDoorXrfArgs
import Derived.Test.YtnmehngedljgoaaGreatDoorXrfThem
import Derived.Test.YtnmehngedljgoaaGreatDoorXrfM
import Derived.Test.YtnmehngedljgoaaGreatDoorXrfParse
namespace Go.Proofs.YtnmehngedljgoaaGreatDoor
open Go.RowKit Rx
set_option linter.unusedSimpArgs false
set_option linter.unusedVariables false

theorem Sl.ent' {w : World} {p : Option Addr} {c : Nat} {l : List Xent} (h : Sl w p c l) : EntR w w.heap.size p l := h.1
theorem theirs_in (l : List Xent) (p : Option Addr) (c : Nat) (w : World) (h : EntR w w.heap.size p l) (hB : l.length ≤ 1099511627776) :
    Calls Tryz.prog 19 #[.slice p l.length c] w fun e w' => ∃ p' c', e = .returned (.slice p' l.length c') ∧ EntR w' w'.heap.size p' l ∧ Kept w w' := by
  refine (xtheirs_any l p c w h hB).mono ?_
  rintro e w' ⟨v, rfl, hE, hk⟩
  obtain ⟨p', c', rfl, -⟩ := hE.shape
  exact ⟨p', c', rfl, hE.entR, hk⟩

set_option maxRecDepth 100000 in
set_option maxHeartbeats 8000000 in
theorem back_long (l : List Xent) (pa : Option Addr) (ca : Nat) (more : ByteArray) (w : World) (h : Okw w) (hs : 100 < l.length ∨ 300 < more.size) :
    Calls Tryz.prog 5 #[.slice pa l.length ca, .string more] w fun e w' => e = .returned (.bool true) ∧ Kept w w' := by
  obtain ⟨hm, B, hf, hB⟩ := h
  have CA := Lib.hid (awake8_any B w hm hf hB)
  clear hm hf hB
  by_cases h1 : 100 < l.length
  · have i1 : (100 : Int) < (l.length : Int) := by omega
    clear hs
    go_enter Tryz.func5, Tryz.ntmps5
    go_wp2_with fail
    (with_reducible refine CA.out.mono ?_)
    rintro e w1 ⟨rfl, hk1⟩
    go_wp2_with fail
    go_ret
    exact ⟨rfl, hk1⟩
  · have h2 : 300 < more.size := by omega
    have i1 : ¬ (100 : Int) < (l.length : Int) := by omega
    have i2 : (300 : Int) < (more.size : Int) := by omega
    clear hs
    go_enter Tryz.func5, Tryz.ntmps5
    go_wp2_with fail
    (with_reducible refine CA.out.mono ?_)
    rintro e w1 ⟨rfl, hk1⟩
    go_wp2_with fail
    go_ret
    exact ⟨rfl, hk1⟩

set_option maxRecDepth 100000 in
set_option maxHeartbeats 8000000 in
theorem back_bad (l : List Xent) (pa : Option Addr) (ca : Nat) (more : ByteArray) (w : World) (h : Okw w) (ha : Sl w pa ca l) (wa : ∀ e ∈ l, Wf3 e) (h60 : l.length ≤ 100) (h61 : more.size ≤ 300) (hne : writeE l ≠ 0) :
    Calls Tryz.prog 5 #[.slice pa l.length ca, .string more] w fun e w' => e = .returned (.bool true) ∧ Kept w w' := by
  obtain ⟨hm, B, hf, hB⟩ := h
  have CA := Lib.hid (awake8_any B w hm hf hB)
  have CW := Lib.hid (show ∀ W, Kept w W → Calls Tryz.prog 17 #[.slice pa l.length ca] W fun e w' => e = .returned (.tuple #[.string ⟨#[]⟩, .int .i64 (writeE l)]) ∧ Kept W w' from fun W hk => by
    have := Write_any l pa ca B W (ha.1.see hk) (hf.kept hB hk) (Nat.le_trans hB (Below.size hk)) (fun t ht => (wa t ht).2) ha.2.2 (by omega)
    rw [show writeV l = [] by unfold writeV; rw [if_neg hne]] at this
    exact this)
  have i1 : ¬ (100 : Int) < (l.length : Int) := by omega
  have i2 : ¬ (300 : Int) < (more.size : Int) := by omega
  have h12 : writeE l = 1 ∨ writeE l = 2 := (writeE_cases l).resolve_left hne
  clear hm hf hB ha wa
  rcases h12 with h12 | h12
  all_goals
    rw [h12] at CW
    go_enter Tryz.func5, Tryz.ntmps5
    go_wp2_with fail
    (with_reducible refine CA.out.mono ?_)
    rintro e w1 ⟨rfl, hk1⟩
    have K1 := Lib.hid hk1
    clear hk1
    go_wp2_with fail
    (with_reducible refine (CW.out w1 K1.out).mono ?_)
    rintro e w2 ⟨rfl, hk2⟩
    have K2 := Lib.hid (K1.out.trans hk2)
    clear hk2
    go_wp2_with fail
    go_ret
    exact ⟨rfl, K2.out⟩

/-- What is read, told by where it lies. -/
theorem parse_back (l : List Xent) (S more T : ByteArray) (hS : S = ⟨(writeT l).toArray⟩) (hg : ∀ e ∈ l, Rx.Good e) (hSz : S.size ≤ 4000) (hm : more.size ≤ 300)
    (hT : T = S ++ ⟨#[116, 114, 97, 105, 108, 101, 114, 60, 60, 47, 83, 105, 122, 101, 32, 55, 62, 62]⟩ ++ more) (w : World) (hx : HasMax w) :
    Calls Tryz.prog 23 #[.string T, .int .i64 0] w fun e w' => ∃ (p q r : Option Addr) (c d f : Nat), e = .returned (.tuple #[.slice p l.length c, .agg #[.int .i64 6, .int .i64 0, .int .i64 0, .string ⟨#[]⟩, .slice q 0 d, .slice r 1 f], .int .i64 0]) ∧ EntR w' w'.heap.size p l ∧ Kept w w' := by
  obtain ⟨o, ho, rfl⟩ := back_reads l more.data.toList hg
  have hl : T.data.toList = writeT l ++ (trailT ++ ([60, 60, 47, 83, 105, 122, 101, 32, 55, 62, 62] ++ more.data.toList)) := by
    rw [hT, hS]; simp [trailT]
  have hz : T.size ≤ 65536 := by
    have h1 : T.size = T.data.toList.length := by simp
    have h2 : S.size = (writeT l).length := by rw [hS]; show (writeT l).toArray.size = _; simp
    have h3 : more.data.toList.length = more.size := by simp
    rw [h1, hl]
    simp only [List.length_append, h3]
    have : trailT.length = 7 := rfl
    simp only [List.length_cons, List.length_nil]
    omega
  refine (xParse_any T 0 w hz hx _ (by rw [hl, ho])).mono ?_
  rintro e w' ⟨v, h, rfl, hE, hk⟩
  obtain ⟨p, c, rfl, -⟩ := hE.shape
  exact ⟨p, h.p, h.q, c, h.c, h.e, rfl, hE.entR, hk⟩
theorem parse_short (l : List Xent) (S : ByteArray) (hS : S = ⟨(writeT l).toArray⟩) (hg : ∀ e ∈ l, Rx.Good e) (hSz : S.size ≤ 4000) (w : World) (hx : HasMax w) :
    Calls Tryz.prog 23 #[.string S, .int .i64 0] w fun e w' => ∃ (v : Value) (q r : Option Addr) (d f : Nat), e = .returned (.tuple #[v, .agg #[.int .i64 0, .int .i64 0, .int .i64 0, .string ⟨#[]⟩, .slice q 0 d, .slice r 0 f], .int .i64 4]) ∧ Kept w w' := by
  refine (xParse_any S 0 w (by omega) hx _ rfl).mono ?_
  rintro e w' ⟨v, h, rfl, hE, hk⟩
  have : (parseX S.data.toList 0).1 = 4 := by rw [hS]; exact back_short l hg
  have h2 : (parseX S.data.toList 0).2 = ([], Cx.nul) := parse_bad (by rw [this]; decide)
  rw [this, h2]
  exact ⟨v, h.p, h.q, h.c, h.e, rfl, hk⟩

set_option maxRecDepth 100000 in
set_option maxHeartbeats 16000000 in
theorem back_good (l : List Xent) (pa : Option Addr) (ca : Nat) (more : ByteArray) (w : World) (h : Okw w) (ha : Sl w pa ca l) (wa : ∀ e ∈ l, Wf3 e) (h60 : l.length ≤ 100) (h61 : more.size ≤ 300) (hne : writeE l = 0) :
    Calls Tryz.prog 5 #[.slice pa l.length ca, .string more] w fun e w' => e = .returned (.bool true) ∧ Kept w w' := by
  obtain ⟨hm, B, hf, hB⟩ := h
  have HMX := Lib.hid hm
  have CA := Lib.hid (awake8_any B w hm hf hB)
  obtain ⟨S, hS⟩ : ∃ S : ByteArray, S = ⟨(writeT l).toArray⟩ := ⟨_, rfl⟩
  have hall := (writeE_zero hne).2
  have CW := Lib.hid (show ∀ W, Kept w W → Calls Tryz.prog 17 #[.slice pa l.length ca] W fun e w' => e = .returned (.tuple #[.string S, .int .i64 0]) ∧ Kept W w' from fun W hk => by
    have := Write_any l pa ca B W (ha.1.see hk) (hf.kept hB hk) (Nat.le_trans hB (Below.size hk)) (fun t ht => (wa t ht).2) ha.2.2 (by omega)
    rw [show writeV l = writeT l by unfold writeV; rw [if_pos hne], hne, ← hS] at this
    exact this)
  have hSz : S.size ≤ 4000 := by
    have h1 : S.size = (writeT l).length := by rw [hS]; show (writeT l).toArray.size = _; simp
    have h2 := body_len l none (fun e he => ⟨(hall e he).1, (hall e he).2.1⟩) (by omega)
    have h3 : (writeT l).length = 5 + (bodyT none l).length := by unfold writeT; rw [List.length_append]; rfl
    omega
  have HS := Lib.hid hS
  have SA := Lib.hid ha
  have HALL := Lib.hid hall
  have i1 : ¬ (100 : Int) < (l.length : Int) := by omega
  have i2 : ¬ (300 : Int) < (more.size : Int) := by omega
  clear hm hf hB ha wa hS hall
  go_enter Tryz.func5, Tryz.ntmps5
  go_wp2_with fail
  (with_reducible refine CA.out.mono ?_)
  rintro e w1 ⟨rfl, hk1⟩
  have K1 := Lib.hid hk1
  clear hk1
  go_wp2_with fail
  (with_reducible refine (CW.out w1 K1.out).mono ?_)
  rintro e w2 ⟨rfl, hk2⟩
  have K2 := Lib.hid (K1.out.trans hk2)
  clear hk2
  go_wp2_with fail
  go_loopg [8] (l.length + 1) (fun x y wr => ∃ j : Nat, x = l.length + 1 - j ∧ j ≤ l.length ∧ y = .int .i64 j ∧ Hid (∀ e ∈ l.take j, e.off ≤ 2147483) ∧ Kept w2 wr)
  case atStart => exact ⟨0, rfl, Nat.zero_le _, rfl, Lib.hid (by simp), Kept.refl w2⟩
  case round =>
    obtain ⟨j, hx, hj, rfl, HO, hk⟩ := hrel
    have KR := Lib.hid hk
    clear hk
    by_cases hlt : j < l.length
    · have j1 : (j : Int) < (l.length : Int) := by omega
      obtain ⟨kb, o, hp, -, c0, c1, -⟩ := (SA.out.see (K2.out.trans KR.out)).1 j hlt
      subst hp
      obtain ⟨x0, hx0⟩ : ∃ x0, x0 = l[j].off := ⟨_, rfl⟩
      rw [← hx0] at c1
      by_cases hoff : 2147483 < x0
      · clear hx0
        go_wp2_with fail
        go_ret
        exact ⟨rfl, K2.out.trans KR.out⟩
      · have HN := Lib.hid (show ∀ e ∈ l.take (j + 1), e.off ≤ 2147483 from fun e he => by
          rw [List.take_succ_eq_append_getElem hlt, List.mem_append, List.mem_singleton] at he
          rcases he with he | rfl
          · exact HO.out e he
          · omega)
        clear hx0
        go_wp2_with fail
        go_roundg (l.length + 1 - (j + 1))
        case measure => omega
        case rel => exact ⟨j + 1, rfl, by omega, by go_num, HN, KR.out⟩
    · have j1 : ¬ (j : Int) < (l.length : Int) := by omega
      obtain rfl : j = l.length := by omega
      have hg : ∀ e ∈ l, Rx.Good e := fun e he => by
        have h1 := HALL.out e he
        have h2 := HO.out e (by rw [List.take_length]; exact he)
        exact ⟨h1.1, h1.2.1, h1.2.2.1, h2, h1.2.2.2.2.1, h1.2.2.2.2.2⟩
      obtain ⟨T, hT⟩ : ∃ T, T = S ++ ⟨#[116, 114, 97, 105, 108, 101, 114, 60, 60, 47, 83, 105, 122, 101, 32, 55, 62, 62]⟩ ++ more := ⟨_, rfl⟩
      have CP := Lib.hid (fun W (hx : HasMax W) => parse_back l S more T HS.out hg hSz h61 hT W hx)
      have CS := Lib.hid (fun W (hx : HasMax W) => parse_short l S HS.out hg hSz W hx)
      rw [hT] at CP
      have KW := Lib.hid (K2.out.trans KR.out)
      clear hg hT
      go_wp2_with fail
      (with_reducible refine (CP.out _ (HMX.out.kept KW.out)).mono ?_)
      rintro e w4 ⟨p, q, r, c, d, f, rfl, hE, hk4⟩
      have E4 := Lib.hid hE
      have K4 := Lib.hid (KW.out.trans hk4)
      have B5 := Lib.hid (Blk.fresh w4 #[.int .i64 6, .int .i64 0, .int .i64 0, .string ⟨#[]⟩, .slice q 0 d, .slice r 1 f] 26)
      have A5 := Lib.hid (show Kept w4 (w4.alloc (.cells #[.int .i64 6, .int .i64 0, .int .i64 0, .string ⟨#[]⟩, .slice q 0 d, .slice r 1 f] 26)) from (Kept.refl w4).allocO _)
      have K5 := Lib.hid (K4.out.trans A5.out)
      have E5 := Lib.hid (E4.out.see A5.out)
      clear hE hk4
      go_wp2_with fail
      (with_reducible refine (CS.out _ (HMX.out.kept K5.out)).mono ?_)
      rintro e w6 ⟨vv, q6, r6, d6, f6, rfl, hk6⟩
      have K6 := Lib.hid (K5.out.trans hk6)
      have B6 := Lib.hid (B5.out.kept hk6)
      have E6 := Lib.hid (E5.out.see hk6)
      have hl40 : l.length ≤ 1099511627776 := by omega
      clear hk6
      obtain ⟨WX, hWX⟩ : ∃ WX, WX = w6.alloc (.cells #[.int .i64 0, .int .i64 0, .int .i64 0, .string ⟨#[]⟩, .slice q6 0 d6, .slice r6 0 f6] 26) := ⟨_, rfl⟩
      have kX : Kept w6 WX := by rw [hWX]; exact (Kept.refl w6).allocO _
      have K6' := Lib.hid (K6.out.trans kX)
      have B6' := Lib.hid (B6.out.kept kX)
      have E6' := Lib.hid (E6.out.see kX)
      clear kX
      go_wp2_with fail
      rw [← hWX]
      (with_reducible refine (theirs_in l p c WX E6'.out hl40).mono ?_)
      rintro e w7 ⟨p7, c7, rfl, hE7, hk7⟩
      have E7 := Lib.hid hE7
      have K7 := Lib.hid (K6'.out.trans hk7)
      have B7 := Lib.hid (B6'.out.kept hk7)
      clear hE7 hk7
      go_wp2_with fail
      (with_reducible refine (theirs_in l pa ca w7 (SA.out.see K7.out).ent' hl40).mono ?_)
      rintro e w8 ⟨p8, c8, rfl, hE8, hk8⟩
      have E8 := Lib.hid hE8
      have E7' := Lib.hid (E7.out.see hk8)
      have K8 := Lib.hid (K7.out.trans hk8)
      have B8 := Lib.hid (B7.out.kept hk8)
      clear hE8 hk8
      go_wp2_with fail
      (with_reducible refine (refSame_any l p7 p8 c7 c8 w8 E7'.out E8.out hl40).mono ?_)
      rintro e w9 ⟨rfl, hk9⟩
      have K9 := Lib.hid (K8.out.trans hk9)
      have B9 := Lib.hid (B8.out.kept hk9)
      clear hk9
      obtain ⟨y0, y1, y2, y3, y4, y5⟩ := B9.out.cells6
      go_wp2_with fail
      go_ret
      exact ⟨rfl, K9.out⟩

theorem XrefBack_walk (va : Value) (l : List Xent) (more : ByteArray) (w : World) (h : Okw w) (ha : EntArg w va l) :
    Calls Tryz.prog 5 #[va, .string more] w fun e w' => e = .returned (.bool true) ∧ Kept w w' := by
  obtain ⟨pa, ca, rfl, sa, -, wa⟩ := ha
  by_cases hs : 100 < l.length ∨ 300 < more.size
  · exact back_long l pa ca more w h hs
  · by_cases hne : writeE l = 0
    · exact back_good l pa ca more w h sa wa (by omega) (by omega) hne
    · exact back_bad l pa ca more w h sa wa (by omega) (by omega) hne

end Go.Proofs.YtnmehngedljgoaaGreatDoor
