/-
  Entries as lines: sane, run, padded, a run's lines.
-/
import Derived.Test.YtoablpaehhjchaaGreatDoorXrfM
import Derived.Test.YtoablpaehhjchaaGreatDoorXrfConcat
import Derived.Test.YtoablpaehhjchaaGreatDoorShelf
import Derived.Lib.AppendStr
import Derived.Lib.AppendIntMem
import Derived.BigQuiet
namespace Go.Proofs.YtoablpaehhjchaaGreatDoor
open Go.RowKit Rx
set_option linter.unusedSimpArgs false
set_option linter.unusedVariables false

/-- The library's table of powers lies below B, as it is laid. -/
def TB (B : Nat) (w : World) : Prop := Lib.TabBelow Tryz.prog B w "internal/strconv.uint64pow10" .u64 Lib.pow10Tab
theorem TB.on {B : Nat} {w w1 : World} (h : TB B w) (hb : Below B w w1) : TB B w1 := Lib.TabBelow.on h hb
theorem TB.here {B : Nat} {w : World} (h : TB B w) : Lib.TabIs Tryz.prog w "internal/strconv.uint64pow10" .u64 Lib.pow10Tab := Lib.TabBelow.here h
theorem below_of {B : Nat} {w w' : World} (h : Kept w w') (hB : B ≤ w.heap.size) : Below B w w' := Below.mono h hB
theorem TB.kept {B : Nat} {w w1 : World} (h : TB B w) (hB : B ≤ w.heap.size) (k : Kept w w1) : TB B w1 := h.on (below_of k hB)

theorem ItoaX (n : Int) {B : Nat} (w : World) (h0 : -9223372036854775808 ≤ n) (h1 : n ≤ 9223372036854775807) (hf : TB B w) :
    Calls Tryz.prog 75 #[.int .i64 n] w fun e w' => e = .returned (.string ⟨(Lib.itoa n).toArray⟩) ∧ Kept w w' :=
  (Tryz.strconv_Itoa n h0 h1 w hf.here).mono fun _ _ ⟨he, k, os, hw⟩ => ⟨he, by rw [hw]; exact Kept.grow ((Kept.refl _).drewN k) os⟩
theorem itoaN {n : Int} (h : 0 ≤ n) : Lib.itoa n = Lib.decDigits n.toNat := Fx.itoa_pos h
theorem len_gt {n : Int} (h : 0 ≤ n) (k : Nat) (hk : 1 ≤ k) : (k : Int) < (((⟨(Lib.itoa n).toArray⟩ : ByteArray)).size : Int) ↔ (10 : Int) ^ k ≤ n := by
  have e : ((⟨(Lib.itoa n).toArray⟩ : ByteArray)).size = Lib.nDigits n.toNat := by
    show ((Lib.itoa n).toArray).size = _
    rw [List.size_toArray, itoaN h, Lib.decDigits_length]
  rw [e]
  have := nDigits_le_iff (k := k) (n := n.toNat) hk
  have h2 : ((10 ^ k : Nat) : Int) = (10 : Int) ^ k := by simp
  constructor
  · intro h3
    have h4 : ¬ Lib.nDigits n.toNat ≤ k := by omega
    rw [this] at h4
    rw [← h2]; omega
  · intro h3
    rw [← h2] at h3
    have h4 : ¬ n.toNat < 10 ^ k := by omega
    rw [← this] at h4
    omega

/-- Sizes that a machine's int holds, none below 0. -/
def Pos (e : Xent) : Prop := 0 ≤ e.off ∧ e.off ≤ 9223372036854775807 ∧ 0 ≤ e.gen ∧ e.gen ≤ 9223372036854775807

set_option maxRecDepth 100000 in
set_option maxHeartbeats 2000000 in
theorem tooGreat_any (t : Xent) (B : Nat) (w : World) (hf : TB B w) (hB : B ≤ w.heap.size) (hp : Pos t) :
    Calls Tryz.prog 45 #[xentV t] w fun e w' => e = .returned (.bool (tooG t)) ∧ Kept w w' := by
  obtain ⟨p0, p1, p2, p3⟩ := hp
  have hx1 := len_gt p0 10 (by decide)
  have hx2 := len_gt p2 5 (by decide)
  obtain ⟨S1, hS1⟩ : ∃ S1, S1 = (⟨(Lib.itoa t.off).toArray⟩ : ByteArray) := ⟨_, rfl⟩
  obtain ⟨S2, hS2⟩ : ∃ S2, S2 = (⟨(Lib.itoa t.gen).toArray⟩ : ByteArray) := ⟨_, rfl⟩
  rw [← hS1] at hx1
  rw [← hS2] at hx2
  have C1 := Lib.hid (fun W (k : Kept w W) => show Calls Tryz.prog 75 #[.int .i64 t.off] W fun e w' => e = .returned (.string S1) ∧ Kept W w' from by rw [hS1]; exact ItoaX t.off W (by omega) p1 (hf.kept hB k))
  have C2 := Lib.hid (fun W (k : Kept w W) => show Calls Tryz.prog 75 #[.int .i64 t.gen] W fun e w' => e = .returned (.string S2) ∧ Kept W w' from by rw [hS2]; exact ItoaX t.gen W (by omega) p3 (hf.kept hB k))
  have BX := Lib.hid (Blk.fresh w #[.int .i64 t.n, .int .i64 t.off, .int .i64 t.gen, .bool t.used] 65)
  have KX := Lib.hid (show Kept w (w.alloc (.cells #[.int .i64 t.n, .int .i64 t.off, .int .i64 t.gen, .bool t.used] 65)) from (Kept.refl w).allocO _)
  clear hS1 hS2 hf p1 p3
  by_cases g1 : 9999999999 < t.off
  · have q1 : (10 : Int) < (S1.size : Int) := hx1.2 (by omega)
    have hv : tooG t = true := by unfold tooG; rw [decide_eq_true g1]; rfl
    rw [hv]
    clear hv hx1 hx2 g1
    unfold xentV
    go_enter Tryz.func45, Tryz.ntmps45
    go_wp2_with (go_at_call 75; with_reducible refine (C1.out _ KX.out).mono ?_; rintro e w2 ⟨rfl, hk2⟩)
    go_ret
    exact ⟨rfl, KX.out.trans hk2⟩
  · have q1 : ¬ (10 : Int) < (S1.size : Int) := fun h => by have := hx1.1 h; omega
    by_cases g2 : 99999 < t.gen
    · have q2 : (5 : Int) < (S2.size : Int) := hx2.2 (by omega)
      have hv : tooG t = true := by unfold tooG; rw [decide_eq_true g2]; simp
      rw [hv]
      clear hv hx1 hx2 g1 g2
      unfold xentV
      go_enter Tryz.func45, Tryz.ntmps45
      go_wp2_with (go_at_call 75; first | (with_reducible refine (C1.out _ KX.out).mono ?_; rintro e w2 ⟨rfl, hk2⟩; have K2 := Lib.hid (KX.out.trans hk2); have B2 := Lib.hid (BX.out.kept hk2); obtain ⟨b0, b1, b2, b3⟩ := B2.out.cells4; clear hk2) | (with_reducible refine (C2.out _ K2.out).mono ?_; rintro e w3 ⟨rfl, hk3⟩))
      go_ret
      exact ⟨rfl, K2.out.trans hk3⟩
    · have q2 : ¬ (5 : Int) < (S2.size : Int) := fun h => by have := hx2.1 h; omega
      have hv : tooG t = decide (4096 ≤ t.n) := by unfold tooG; rw [decide_eq_false g1, decide_eq_false g2]; rfl
      rw [hv]
      clear hv hx1 hx2 g1 g2
      unfold xentV
      go_enter Tryz.func45, Tryz.ntmps45
      go_wp2_with (go_at_call 75; first | (with_reducible refine (C1.out _ KX.out).mono ?_; rintro e w2 ⟨rfl, hk2⟩; have K2 := Lib.hid (KX.out.trans hk2); have B2 := Lib.hid (BX.out.kept hk2); obtain ⟨b0, b1, b2, b3⟩ := B2.out.cells4; clear hk2) | (with_reducible refine (C2.out _ K2.out).mono ?_; rintro e w3 ⟨rfl, hk3⟩; have K3 := Lib.hid (K2.out.trans hk3); obtain ⟨d0, d1, d2, d3⟩ := (B2.out.kept hk3).cells4; clear hk3))
      go_ret
      exact ⟨congrArg (fun b => Ending.returned (Value.bool b)) (show (decide ((10 : Int) < (S1.size : Int)) || decide ((5 : Int) < (S2.size : Int)) || decide (4096 ≤ t.n)) = decide (4096 ≤ t.n) by rw [decide_eq_false (by omega : ¬ (10 : Int) < (S1.size : Int)), decide_eq_false (by omega : ¬ (5 : Int) < (S2.size : Int))]; rfl), K3.out⟩

set_option maxRecDepth 100000 in
set_option maxHeartbeats 2000000 in
theorem IndexFuncE_any (l : List Xent) (p : Option Addr) (c B : Nat) (w : World) (h : EntR w w.heap.size p l) (hf : TB B w) (hB : B ≤ w.heap.size) (hp : ∀ t ∈ l, Pos t) (hl : l.length ≤ 1099511627776) :
    Calls Tryz.prog 74 #[.slice p l.length c, .func (.func 45) #[] #[]] w fun e w' => ∃ i : Int, e = .returned (.int .i64 i) ∧ (0 ≤ i ↔ l.any tooG = true) ∧ Kept w w' := by
  have HT := Lib.hid h
  have HF := Lib.hid (fun W (k : Kept w W) => hf.kept hB k)
  have HP := Lib.hid hp
  have eg : ∀ args w, (callFunc 45 args).run Tryz.prog w = .ok (.enter 45 args) w := enters_of Tryz.func45 (by kernel_rfl) rfl
  clear h hf hp
  go_enter Tryz.func74, Tryz.ntmps74
  go_wp2_with fail
  go_loopg [5, 8] (l.length + 1) (fun x z y wr => ∃ (j : Nat) (zz : Value), zz = z ∧ x = l.length + 1 - j ∧ j ≤ l.length ∧ y = .int .i64 j ∧ Hid ((l.take j).any tooG = false) ∧ Kept w wr)
  case atStart => exact ⟨0, _, rfl, rfl, Nat.zero_le _, rfl, Lib.hid rfl, Kept.refl w⟩
  case round =>
    obtain ⟨j, zz, rfl, hx, hj, rfl, HN, hk⟩ := hrel
    have HK := Lib.hid hk
    clear hk
    by_cases hlt : j < l.length
    · have j1 : (j : Int) < (l.length : Int) := by omega
      obtain ⟨kb, o, hp, hkb, c0, c1, c2, c3⟩ := (HT.out.keep (Nat.le_refl _) HK.out) j hlt
      subst hp
      have htk : l.take (j + 1) = l.take j ++ [l[j]] := List.take_succ_eq_append_getElem hlt
      have hpt := HP.out l[j] (List.getElem_mem hlt)
      have hmem : l[j] ∈ l := List.getElem_mem hlt
      obtain ⟨t, ht⟩ : ∃ t, t = l[j] := ⟨_, rfl⟩
      rw [← ht] at c0 c1 c2 c3 htk hpt hmem
      have HTK := Lib.hid htk
      have HMEM := Lib.hid hmem
      have CT := Lib.hid (tooGreat_any t B wr (HF.out _ HK.out) (Nat.le_trans hB (Below.size HK.out)) hpt)
      clear ht htk hpt hmem
      unfold xentV at CT
      cases htg : tooG t with
      | true =>
        rw [htg] at CT
        go_wp2_with (go_at_fn 45; refine CT.out.mono ?_; rintro e w2 ⟨rfl, hk2⟩)
        go_ret
        exact ⟨(j : Int), rfl, ⟨fun _ => List.any_eq_true.2 ⟨t, HMEM.out, htg⟩, fun _ => by omega⟩, HK.out.trans hk2⟩
      | false =>
        rw [htg] at CT
        go_wp2_with (go_at_fn 45; refine CT.out.mono ?_; rintro e w2 ⟨rfl, hk2⟩)
        go_roundg (l.length + 1 - (j + 1))
        case measure => omega
        case rel => exact ⟨j + 1, _, rfl, rfl, by omega, by go_num, Lib.hid (by rw [HTK.out, List.any_append, HN.out]; simp [htg]), HK.out.trans hk2⟩
    · obtain rfl : j = l.length := by omega
      have hn := HN.out
      rw [List.take_length] at hn
      have HN2 := Lib.hid hn
      clear hn
      go_wp2_with fail
      go_ret
      exact ⟨-1, rfl, ⟨fun h => absurd h (by decide), fun h => by rw [HN2.out] at h; cases h⟩, HK.out⟩

theorem ContainsFuncE_any (l : List Xent) (p : Option Addr) (c B : Nat) (w : World) (h : EntR w w.heap.size p l) (hf : TB B w) (hB : B ≤ w.heap.size) (hp : ∀ t ∈ l, Pos t) (hl : l.length ≤ 1099511627776) :
    Calls Tryz.prog 44 #[.slice p l.length c, .func (.func 45) #[] #[]] w fun e w' => e = .returned (.bool (l.any tooG)) ∧ Kept w w' := by
  have CI := Lib.hid (IndexFuncE_any l p c B w h hf hB hp hl)
  obtain ⟨r, hr⟩ : ∃ r, r = l.any tooG := ⟨_, rfl⟩
  rw [← hr] at CI ⊢
  clear h hf hp hr
  go_enter Tryz.func44, Tryz.ntmps44
  go_wp2_with (go_at_call 74; refine CI.out.mono ?_; rintro e w2 ⟨i, rfl, hi, hk2⟩)
  go_ret
  exact ⟨rfl, hk2⟩

set_option maxRecDepth 100000 in
set_option maxHeartbeats 4000000 in
theorem xsane_any (l : List Xent) (p : Option Addr) (c B : Nat) (w : World) (h : EntR w w.heap.size p l) (hf : TB B w) (hB : B ≤ w.heap.size) (hw : ∀ t ∈ l, t.off ≤ 9223372036854775807 ∧ t.gen ≤ 9223372036854775807) (hl : l.length ≤ 1099511627776) :
    Calls Tryz.prog 26 #[.slice p l.length c] w fun e w' => e = .returned (.int .i64 (writeE l)) ∧ Kept w w' := by
  have HT := Lib.hid h
  have HF := Lib.hid (fun W (k : Kept w W) => hf.kept hB k)
  have HW := Lib.hid hw
  clear h hf hw
  go_enter Tryz.func26, Tryz.ntmps26
  go_wp2_with fail
  go_loopg [3, 8] (l.length + 1) (fun x z y wr => ∃ (j : Nat) (n : Int), z = .int .i64 n ∧ x = l.length + 1 - j ∧ j ≤ l.length ∧ y = .int .i64 j ∧ -1 ≤ n ∧ Hid (risG n (l.drop j) = risG (-1) l) ∧ Kept w wr)
  case atStart => exact ⟨0, -1, rfl, rfl, Nat.zero_le _, rfl, Int.le_refl _, Lib.hid rfl, Kept.refl w⟩
  case round =>
    obtain ⟨j, n, rfl, hx, hj, rfl, hn1, HN, hk⟩ := hrel
    have HK := Lib.hid hk
    clear hk
    by_cases hlt : j < l.length
    · have j1 : (j : Int) < (l.length : Int) := by omega
      obtain ⟨kb, o, hp, hkb, c0, c1, c2, c3⟩ := (HT.out.keep (Nat.le_refl _) HK.out) j hlt
      subst hp
      have hdr : l.drop j = l[j] :: l.drop (j + 1) := List.drop_eq_getElem_cons hlt
      obtain ⟨t, ht⟩ : ∃ t, t = l[j] := ⟨_, rfl⟩
      rw [← ht] at c0 c1 c2 c3 hdr
      have HD := Lib.hid hdr
      have K2 := Lib.hid (show Kept w (wr.alloc (.cells #[.int .i64 t.n, .int .i64 t.off, .int .i64 t.gen, .bool t.used] 65)) from HK.out.allocO _)
      clear ht hdr
      by_cases hg : n < t.n ∧ 0 ≤ t.off ∧ 0 ≤ t.gen
      · have HV := Lib.hid (show risG t.n (l.drop (j + 1)) = risG (-1) l by rw [← HN.out, HD.out]; exact (ris_good hg).symm)
        obtain ⟨g1, g2, g3⟩ := hg
        have q1 : ¬ t.n ≤ n := by omega
        have q2 : ¬ t.off < 0 := by omega
        have q3 : ¬ t.gen < 0 := by omega
        clear g1 g2 g3
        go_wp2_with fail
        go_roundg (l.length + 1 - (j + 1))
        case measure => omega
        case rel => exact ⟨j + 1, t.n, rfl, rfl, by omega, by go_num, by omega, Lib.hid HV.out, K2.out⟩
      · have HV := Lib.hid (show writeE l = 1 from writeE_one (by rw [← HN.out, HD.out]; exact ris_bad hg))
        rcases (show t.n ≤ n ∨ (¬ t.n ≤ n ∧ t.off < 0) ∨ (¬ t.n ≤ n ∧ ¬ t.off < 0 ∧ t.gen < 0) by omega) with b1 | ⟨b1, b2⟩ | ⟨b1, b2, b3⟩
        all_goals
          clear hg
          go_wp2_with fail
          go_ret
          exact ⟨by rw [HV.out]; rfl, K2.out⟩
    · obtain rfl : j = l.length := by omega
      have hr : risG (-1) l = true := by rw [← HN.out, List.drop_length]; rfl
      have CF := Lib.hid (ContainsFuncE_any l p c B wr (HT.out.see HK.out) (HF.out _ HK.out) (Nat.le_trans hB (Below.size HK.out)) (fun t ht => by have h1 := ris_mem hr t ht; have h2 := HW.out t ht; exact ⟨h1.2.1, h2.1, h1.2.2, h2.2⟩) hl)
      cases hg : l.any tooG with
      | true =>
        have HV := Lib.hid (writeE_two hr hg)
        rw [hg] at CF
        clear hr
        go_wp2_with (go_at_call 44; refine CF.out.mono ?_; rintro e w2 ⟨rfl, hk2⟩)
        go_ret
        exact ⟨by rw [HV.out]; rfl, HK.out.trans hk2⟩
      | false =>
        have HV := Lib.hid (writeE_ok hr hg)
        rw [hg] at CF
        clear hr
        go_wp2_with (go_at_call 44; refine CF.out.mono ?_; rintro e w2 ⟨rfl, hk2⟩)
        go_ret
        exact ⟨by rw [HV.out]; rfl, HK.out.trans hk2⟩

end Go.Proofs.YtoablpaehhjchaaGreatDoor
