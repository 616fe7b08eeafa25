/-
  What the document's own Print of layer 1 (the reference) answers.
-/
import Derived.Test.YtikkpfaeenekbaaDoorFixRef
import Derived.Test.YtikkpfaeenekbaaDoorFixPrint
import Derived.Test.YtikkpfaeenekbaaDoorFixReadMath
namespace Go.Proofs.YtikkpfaeenekbaaDoor
open Go.RowKit

set_option maxHeartbeats 400000 in
theorem Rwhole_small (u : Nat) (w : World) (h : u < 10) :
    Calls Tryd.prog 36 #[.int .i64 u] w fun e w' => e = .returned (.string ⟨(Lib.decDigits u).toArray⟩) ∧ ∃ k, w' = w.drewN k := by
  have HD := Lib.hid (Lib.decDigits_one h)
  have HT := Lib.hid (Fx.ten_piece ⟨u, h⟩)
  go_enter Tryd.func36, Tryd.ntmps36
  go_wp2_with fail
  go_ret
  refine ⟨ret_str ?_, 0, rfl⟩
  rw [HD.out]
  exact HT.out

set_option maxHeartbeats 400000 in
theorem Rwhole_any (k : Nat) : ∀ (u : Nat) (w : World), u < 10 ^ (k + 1) → u < 1000000000000000000 →
    Calls Tryd.prog 36 #[.int .i64 u] w fun e w' => e = .returned (.string ⟨(Lib.decDigits u).toArray⟩) ∧ ∃ k, w' = w.drewN k := by
  induction k with
  | zero => intro u w h _; exact Rwhole_small u w (by omega)
  | succ k ih =>
    intro u w h h'
    by_cases hu : u < 10
    · exact Rwhole_small u w hu
    · have HD := Lib.hid (show Lib.decDigits u = Lib.decDigits (u / 10) ++ [UInt8.ofNat (48 + u % 10)] by rw [Lib.decDigits, dif_neg hu])
      have HT := Lib.hid (Fx.ten_piece ⟨u % 10, by omega⟩)
      have hl : (Lib.decDigits (u / 10)).length ≤ 18 := by rw [Lib.decDigits_length]; exact Fx.nDigits_le 17 _ (by omega)
      have ih' : ∀ w : World, Calls Tryd.prog 36 #[.int .i64 ((u : Int) / 10)] w fun e w' => e = .returned (.string ⟨(Lib.decDigits (u / 10)).toArray⟩) ∧ ∃ k, w' = w.drewN k := by
        intro w
        have := ih (u / 10) w (by rw [Nat.pow_succ] at h; omega) (by omega)
        rwa [show ((u / 10 : Nat) : Int) = (u : Int) / 10 by omega] at this
      have IH := Lib.hid ih'
      clear ih'
      clear ih
      go_enter Tryd.func36, Tryd.ntmps36
      go_wp2_with fail
      go_quiet ((go_at_call 36; exact Calls.quiet_of (IH.out _)))
      go_wp2_with fail
      go_ret
      refine ⟨ret_str ?_, _, rfl⟩
      rw [HD.out, ← bytes_append, show (⟨#[48, 49, 50, 51, 52, 53, 54, 55, 56, 57]⟩ : ByteArray).extract (u % 10) (u % 10 + 1) = ⟨#[UInt8.ofNat (48 + u % 10)]⟩ from HT.out]

theorem Rwhole_int (n : Int) (w : World) (h0 : 0 ≤ n) (h1 : n < 10000000) :
    Calls Tryd.prog 36 #[.int .i64 n] w fun e w' => e = .returned (.string ⟨(Lib.decDigits n.toNat).toArray⟩) ∧ Kept w w' := by
  have h := Rwhole_any 6 n.toNat w (by omega) (by omega)
  rw [show ((n.toNat : Nat) : Int) = n by omega] at h
  exact h.mono fun e w' ⟨he, k, hk⟩ => ⟨he, hk ▸ (Kept.refl _).drewN k⟩

theorem cell_kept {w w' : World} (h : Kept w w') {b o : Nat} {v : Value} (hc : w.cell? ⟨b, o, none⟩ = some v) (hb : b < w.heap.size) : w'.cell? ⟨b, o, none⟩ = some v := by
  rw [Below.cell h (p := ⟨b, o, none⟩) hb]; exact hc

theorem str_start (a b c : List UInt8) : (⟨a.toArray⟩ : ByteArray) ++ ⟨b.toArray⟩ ++ ⟨c.toArray⟩ = ⟨(a ++ b ++ c ++ []).toArray⟩ := by
  rw [bytes_append, bytes_append, List.append_nil]

set_option maxHeartbeats 1000000 in
theorem RPrint_plus (f : Int) (w : World) (h : Fx.saneB f = true) (hn : 0 ≤ f) :
    Calls Tryd.prog 16 #[.int .i64 f] w fun e w' => e = .returned (.string ⟨(Fx.printL f).toArray⟩) ∧ Kept w w' := by
  have a1 := Fx.sane_hi h
  have HP := Lib.hid (Fx.print_plus h (by omega))
  have HI := Lib.hid (Fx.itoa_pos (n := f / 1000) (by omega))
  obtain ⟨l0, l1⟩ := Fx.dec_len (u := (f / 1000).toNat) (by omega)
  have hn' : decide (f < 0) = false := by simpa using hn
  by_cases hr : f % 1000 = 0
  · have HR := Lib.hid (show Fx.partT (f % 1000) = [] from if_pos hr)
    have hr' : (f % 1000 == 0) = true := by simpa using hr
    clear hr
    go_enter Tryd.func16, Tryd.ntmps16
    go_wp2_with fail
    refine (RMay_any _ _).mono ?_
    rintro e w' ⟨rfl, rfl⟩
    go_wp2_with fail
    refine (Rwhole_int _ _ (by omega) (by omega)).mono ?_
    rintro e w1 ⟨rfl, k1⟩
    go_wp2_with fail
    go_ret
    refine ⟨ret_str ?_, k1⟩
    rw [HP.out, HI.out, HR.out, List.append_nil]
    exact bytes_append [] _
  · have HR := Lib.hid (show Fx.partT (f % 1000) = 46 :: Fx.trimT (Lib.itoa (1000 + f % 1000)) from if_neg hr)
    have HT := Lib.hid (Fx.digT_three (r := f % 1000) (by omega) (by omega))
    have hr' : (f % 1000 == 0) = false := by simpa using hr
    have r0 : 0 < f % 1000 := by omega
    have r1 : f % 1000 ≤ 999 := by omega
    clear hr
    go_enter Tryd.func16, Tryd.ntmps16
    go_wp2_with fail
    refine (RMay_any _ _).mono ?_
    rintro e w' ⟨rfl, rfl⟩
    go_wp2_with fail
    refine (Rwhole_int _ _ (by omega) (by omega)).mono ?_
    rintro e w1 ⟨rfl, k1⟩
    go_wp2_with fail
    obtain ⟨pre, hpre⟩ : ∃ pre : List UInt8, [] ++ Lib.decDigits (f / 1000).toNat ++ [46] = pre := ⟨_, rfl⟩
    have lp : pre.length ≤ 10 := by rw [← hpre]; simp only [List.length_append, List.length_cons, List.length_nil]; omega
    have HPre := Lib.hid hpre
    clear hpre
    obtain ⟨r, hr⟩ : ∃ r, f % 1000 = r := ⟨_, rfl⟩
    rw [hr] at r0 r1 HR HT hr'
    have HRR := Lib.hid hr
    rw [hr]
    clear hr
    go_loopw [3, 5, 30] (fun s p i wr => ∃ k : Nat, k ≤ 3 ∧ i = .int .i64 k ∧ s = .string ⟨(pre ++ Fx.digT r k).toArray⟩ ∧ p = .int .i64 (Fx.remT r k) ∧ Kept (w1.alloc (.cells #[.int .i64 100, .int .i64 10, .int .i64 1] 3)) wr) (fun _ _ i _ => 3 - (intOf i).toNat)
    case atStart => exact ⟨0, by omega, rfl, congrArg Value.string (by rw [← HPre.out]; exact str_start _ _ _), rfl, Kept.refl _⟩
    case round =>
      obtain ⟨k, hk, rfl, rfl, rfl, kr⟩ := hrel
      have dl := Fx.digT_len (r := r) (by omega) r1 k
      have KR := Lib.hid kr
      clear kr
      have hb : w1.heap.size < (w1.alloc (.cells #[.int .i64 100, .int .i64 10, .int .i64 1] 3)).heap.size := by simp
      have c0 := cell_kept KR.out (b := w1.heap.size) (o := 0) (v := .int .i64 100) (by simp [go_sem]) hb
      have c1 := cell_kept KR.out (b := w1.heap.size) (o := 1) (v := .int .i64 10) (by simp [go_sem]) hb
      have c2 := cell_kept KR.out (b := w1.heap.size) (o := 2) (v := .int .i64 1) (by simp [go_sem]) hb
      clear hb
      obtain rfl | rfl | rfl | rfl : k = 0 ∨ k = 1 ∨ k = 2 ∨ k = 3 := by omega
      · have e0 : Fx.remT r 0 = r := rfl
        have d1 := Fx.dec_len (u := (r / 100).toNat) (by omega)
        have HD := Lib.hid (show (pre ++ Fx.digT r 0) ++ Lib.decDigits (r / 100).toNat = pre ++ Fx.digT r 1 by
          rw [show Fx.digT r 0 = [] from rfl, List.append_nil]; rfl)
        go_wp2_with fail
        refine (Rwhole_int _ _ (by omega) (by omega)).mono ?_
        rintro e w2 ⟨rfl, k2⟩
        go_wp2_with fail
        go_roundw
        case rel => exact ⟨1, by omega, by go_num, congrArg Value.string (by rw [bytes_append, HD.out]), rfl, KR.out.trans k2⟩
        case measure => simp [intOf]
      · have e0 : Fx.remT r 1 = r % 100 := rfl
        by_cases hp : 0 < r % 100
        · have d1 := Fx.dec_len (u := (r % 100 / 10).toNat) (by omega)
          have HD := Lib.hid (show (pre ++ Fx.digT r 1) ++ Lib.decDigits (r % 100 / 10).toNat = pre ++ Fx.digT r 2 by
            rw [List.append_assoc]; congr 1; exact (if_pos hp).symm)
          go_wp2_with fail
          refine (Rwhole_int _ _ (by omega) (by omega)).mono ?_
          rintro e w2 ⟨rfl, k2⟩
          go_wp2_with fail
          go_roundw
          case rel => exact ⟨2, by omega, by go_num, congrArg Value.string (by rw [bytes_append, HD.out]), rfl, KR.out.trans k2⟩
          case measure => simp [intOf]
        · have HD := Lib.hid (show Fx.digT r 1 = Fx.digT r 2 from (if_neg hp).symm)
          go_wp2_with fail
          go_roundw
          case rel => exact ⟨2, by omega, by go_num, congrArg Value.string (by rw [HD.out]), rfl, KR.out⟩
          case measure => simp [intOf]
      · have e0 : Fx.remT r 2 = r % 10 := by show r % 100 % 10 = r % 10; omega
        have HM := Lib.hid (show r % 100 % 10 = r % 10 by omega)
        by_cases hp : 0 < r % 10
        · have d1 := Fx.dec_len (u := (r % 10).toNat) (by omega)
          have HD := Lib.hid (show (pre ++ Fx.digT r 2) ++ Lib.decDigits (r % 10).toNat = pre ++ Fx.digT r 3 by
            rw [List.append_assoc, ← HM.out]; congr 1; exact (if_pos (by rw [HM.out]; exact hp)).symm)
          go_wp2_with fail
          refine (Rwhole_int _ _ (by omega) (by omega)).mono ?_
          rintro e w2 ⟨rfl, k2⟩
          go_wp2_with fail
          exact ⟨⟨3, by omega, by go_num, congrArg Value.string (by rw [bytes_append, HD.out]), rfl, KR.out.trans k2⟩, by simp [intOf]⟩
        · have HD := Lib.hid (show Fx.digT r 2 = Fx.digT r 3 from (if_neg (by rw [HM.out]; exact hp)).symm)
          go_wp2_with fail
          exact ⟨⟨3, by omega, by go_num, congrArg Value.string (by rw [HD.out]), rfl, KR.out⟩, by simp [intOf]⟩
      · go_wp2_with fail
        go_ret
        refine ⟨ret_str ?_, (k1.alloc _ _).trans KR.out⟩
        rw [HP.out, HI.out, HRR.out, HR.out, HT.out, ← HPre.out]
        congr 1
        simp

set_option maxHeartbeats 1000000 in
theorem RPrint_minus (g : Int) (w : World) (h : Fx.saneB (-g) = true) (hg : 0 < g) :
    Calls Tryd.prog 16 #[.int .i64 (-g)] w fun e w' => e = .returned (.string ⟨(Fx.printL (-g)).toArray⟩) ∧ Kept w w' := by
  have a1 := Fx.sane_lo h
  have HP := Lib.hid (Fx.print_minus h hg)
  have HI := Lib.hid (Fx.itoa_pos (n := g / 1000) (by omega))
  obtain ⟨l0, l1⟩ := Fx.dec_len (u := (g / 1000).toNat) (by omega)
  have hn' : decide (-g < 0) = true := by simpa using hg
  by_cases hr : g % 1000 = 0
  · have HR := Lib.hid (show Fx.partT (g % 1000) = [] from if_pos hr)
    have hr' : (g % 1000 == 0) = true := by simpa using hr
    clear hr
    go_enter Tryd.func16, Tryd.ntmps16
    go_wp2_with fail
    refine (RMay_any _ _).mono ?_
    rintro e w' ⟨rfl, rfl⟩
    go_wp2_with fail
    refine (Rwhole_int _ _ (by omega) (by omega)).mono ?_
    rintro e w1 ⟨rfl, k1⟩
    go_wp2_with fail
    go_ret
    refine ⟨ret_str ?_, k1⟩
    rw [HP.out, HI.out, HR.out, List.append_nil]
    exact bytes_append [45] _
  · have HR := Lib.hid (show Fx.partT (g % 1000) = 46 :: Fx.trimT (Lib.itoa (1000 + g % 1000)) from if_neg hr)
    have HT := Lib.hid (Fx.digT_three (r := g % 1000) (by omega) (by omega))
    have hr' : (g % 1000 == 0) = false := by simpa using hr
    have r0 : 0 < g % 1000 := by omega
    have r1 : g % 1000 ≤ 999 := by omega
    clear hr
    go_enter Tryd.func16, Tryd.ntmps16
    go_wp2_with fail
    refine (RMay_any _ _).mono ?_
    rintro e w' ⟨rfl, rfl⟩
    go_wp2_with fail
    refine (Rwhole_int _ _ (by omega) (by omega)).mono ?_
    rintro e w1 ⟨rfl, k1⟩
    go_wp2_with fail
    obtain ⟨pre, hpre⟩ : ∃ pre : List UInt8, [45] ++ Lib.decDigits (g / 1000).toNat ++ [46] = pre := ⟨_, rfl⟩
    have lp : pre.length ≤ 10 := by rw [← hpre]; simp only [List.length_append, List.length_cons, List.length_nil]; omega
    have HPre := Lib.hid hpre
    clear hpre
    obtain ⟨r, hr⟩ : ∃ r, g % 1000 = r := ⟨_, rfl⟩
    rw [hr] at r0 r1 HR HT hr'
    have HRR := Lib.hid hr
    rw [hr]
    clear hr
    go_loopw [3, 5, 30] (fun s p i wr => ∃ k : Nat, k ≤ 3 ∧ i = .int .i64 k ∧ s = .string ⟨(pre ++ Fx.digT r k).toArray⟩ ∧ p = .int .i64 (Fx.remT r k) ∧ Kept (w1.alloc (.cells #[.int .i64 100, .int .i64 10, .int .i64 1] 3)) wr) (fun _ _ i _ => 3 - (intOf i).toNat)
    case atStart => exact ⟨0, by omega, rfl, congrArg Value.string (by rw [← HPre.out]; exact str_start _ _ _), rfl, Kept.refl _⟩
    case round =>
      obtain ⟨k, hk, rfl, rfl, rfl, kr⟩ := hrel
      have dl := Fx.digT_len (r := r) (by omega) r1 k
      have KR := Lib.hid kr
      clear kr
      have hb : w1.heap.size < (w1.alloc (.cells #[.int .i64 100, .int .i64 10, .int .i64 1] 3)).heap.size := by simp
      have c0 := cell_kept KR.out (b := w1.heap.size) (o := 0) (v := .int .i64 100) (by simp [go_sem]) hb
      have c1 := cell_kept KR.out (b := w1.heap.size) (o := 1) (v := .int .i64 10) (by simp [go_sem]) hb
      have c2 := cell_kept KR.out (b := w1.heap.size) (o := 2) (v := .int .i64 1) (by simp [go_sem]) hb
      clear hb
      obtain rfl | rfl | rfl | rfl : k = 0 ∨ k = 1 ∨ k = 2 ∨ k = 3 := by omega
      · have e0 : Fx.remT r 0 = r := rfl
        have d1 := Fx.dec_len (u := (r / 100).toNat) (by omega)
        have HD := Lib.hid (show (pre ++ Fx.digT r 0) ++ Lib.decDigits (r / 100).toNat = pre ++ Fx.digT r 1 by
          rw [show Fx.digT r 0 = [] from rfl, List.append_nil]; rfl)
        go_wp2_with fail
        refine (Rwhole_int _ _ (by omega) (by omega)).mono ?_
        rintro e w2 ⟨rfl, k2⟩
        go_wp2_with fail
        go_roundw
        case rel => exact ⟨1, by omega, by go_num, congrArg Value.string (by rw [bytes_append, HD.out]), rfl, KR.out.trans k2⟩
        case measure => simp [intOf]
      · have e0 : Fx.remT r 1 = r % 100 := rfl
        by_cases hp : 0 < r % 100
        · have d1 := Fx.dec_len (u := (r % 100 / 10).toNat) (by omega)
          have HD := Lib.hid (show (pre ++ Fx.digT r 1) ++ Lib.decDigits (r % 100 / 10).toNat = pre ++ Fx.digT r 2 by
            rw [List.append_assoc]; congr 1; exact (if_pos hp).symm)
          go_wp2_with fail
          refine (Rwhole_int _ _ (by omega) (by omega)).mono ?_
          rintro e w2 ⟨rfl, k2⟩
          go_wp2_with fail
          go_roundw
          case rel => exact ⟨2, by omega, by go_num, congrArg Value.string (by rw [bytes_append, HD.out]), rfl, KR.out.trans k2⟩
          case measure => simp [intOf]
        · have HD := Lib.hid (show Fx.digT r 1 = Fx.digT r 2 from (if_neg hp).symm)
          go_wp2_with fail
          go_roundw
          case rel => exact ⟨2, by omega, by go_num, congrArg Value.string (by rw [HD.out]), rfl, KR.out⟩
          case measure => simp [intOf]
      · have e0 : Fx.remT r 2 = r % 10 := by show r % 100 % 10 = r % 10; omega
        have HM := Lib.hid (show r % 100 % 10 = r % 10 by omega)
        by_cases hp : 0 < r % 10
        · have d1 := Fx.dec_len (u := (r % 10).toNat) (by omega)
          have HD := Lib.hid (show (pre ++ Fx.digT r 2) ++ Lib.decDigits (r % 10).toNat = pre ++ Fx.digT r 3 by
            rw [List.append_assoc, ← HM.out]; congr 1; exact (if_pos (by rw [HM.out]; exact hp)).symm)
          go_wp2_with fail
          refine (Rwhole_int _ _ (by omega) (by omega)).mono ?_
          rintro e w2 ⟨rfl, k2⟩
          go_wp2_with fail
          exact ⟨⟨3, by omega, by go_num, congrArg Value.string (by rw [bytes_append, HD.out]), rfl, KR.out.trans k2⟩, by simp [intOf]⟩
        · have HD := Lib.hid (show Fx.digT r 2 = Fx.digT r 3 from (if_neg (by rw [HM.out]; exact hp)).symm)
          go_wp2_with fail
          exact ⟨⟨3, by omega, by go_num, congrArg Value.string (by rw [HD.out]), rfl, KR.out⟩, by simp [intOf]⟩
      · go_wp2_with fail
        go_ret
        refine ⟨ret_str ?_, (k1.alloc _ _).trans KR.out⟩
        rw [HP.out, HI.out, HRR.out, HR.out, HT.out, ← HPre.out]
        congr 1
        simp

set_option maxHeartbeats 400000 in
theorem RPrint_none (f : Int) (w : World) (h : Fx.saneB f = false) :
    Calls Tryd.prog 16 #[.int .i64 f] w fun e w' => e = .returned (.string ⟨(Fx.printL f).toArray⟩) ∧ Kept w w' := by
  have HP := Lib.hid (Fx.print_none h)
  go_enter Tryd.func16, Tryd.ntmps16
  go_wp2_with (go_at_call 18; refine (RMay_any _ _).mono ?_; rintro e w' ⟨rfl, rfl⟩)
  go_ret
  exact ⟨ret_str (by rw [HP.out]), Kept.refl _⟩

theorem RPrint_any (f : Int) (w : World) :
    Calls Tryd.prog 16 #[.int .i64 f] w fun e w' => e = .returned (.string ⟨(Fx.printL f).toArray⟩) ∧ Kept w w' := by
  cases h : Fx.saneB f
  · exact RPrint_none f w h
  · by_cases hn : f < 0
    · have := RPrint_minus (-f) w (by rw [Int.neg_neg]; exact h) (by omega)
      rwa [Int.neg_neg] at this
    · exact RPrint_plus f w h (by omega)

end Go.Proofs.YtikkpfaeenekbaaDoor
