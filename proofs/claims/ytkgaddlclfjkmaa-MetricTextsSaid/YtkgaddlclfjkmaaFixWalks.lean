/-
  What package fix's reckoning functions answer: Sane, checked, magnitude, rounded.
-/
import Derived.Test.YtkgaddlclfjkmaaKept
import Derived.Test.YtkgaddlclfjkmaaFixMath
import Derived.WalkKit
import Derived.WalkSpells
import Derived.WalkLawsBesides
import Derived.BigQuiet
import Derived.Deep.QuietTactic
import Derived.Lib.Hide
namespace Go.Proofs.Ytkgaddlclfjkmaa
open Go.RowKit

theorem ret_int {k : IntKind} {a b : Int} (h : a = b) : Ending.returned (.int k a) = .returned (.int k b) := by rw [h]
theorem ret_bool {a b : Bool} (h : a = b) : Ending.returned (.bool a) = .returned (.bool b) := by rw [h]
theorem ret_ints {a b c d : Int} (h : a = b) (h' : c = d) : Ending.returned (.tuple #[.int .i64 a, .int .i64 c]) = .returned (.tuple #[.int .i64 b, .int .i64 d]) := by rw [h, h']

set_option maxHeartbeats 400000 in
theorem magnitude_any (x : Int) (w : World) (h0 : -9223372036854775807 ≤ x) (h1 : x ≤ 9223372036854775807) :
    Calls Try.prog 48 #[.int .i64 x] w fun e w' => e = .returned (.int .i64 (Fx.mag x)) ∧ w = w' := by
  by_cases h : x < 0
  · have HM := Lib.hid (show Fx.mag x = -x from if_pos h)
    go_enter Try.func48, Try.ntmps48
    go_wp2
    go_ret
    exact ⟨ret_int HM.out.symm, rfl⟩
  · have HM := Lib.hid (show Fx.mag x = x from if_neg h)
    go_enter Try.func48, Try.ntmps48
    go_wp2
    go_ret
    exact ⟨ret_int HM.out.symm, rfl⟩

set_option maxHeartbeats 400000 in
/-- Sane, at numbers that lie in memory one behind the other. -/
theorem sane_any (zs : List Int) (b : Nat) (w : World) (hl : zs.length ≤ 9223372036854775807) (hc : ∀ i, i < zs.length → w.cell? ⟨b, i, none⟩ = some (.int .i64 (zs.getD i 0))) :
    Calls Try.prog 36 #[.slice (some ⟨b, 0, none⟩) zs.length zs.length] w fun e w' => e = .returned (.bool (zs.all Fx.saneB)) ∧ w = w' := by
  have HC := Lib.hid hc
  clear hc
  go_enter Try.func36, Try.ntmps36
  go_wp2
  go_loop [7] (fun i => ∃ k : Nat, k ≤ zs.length ∧ i = .int .i64 k ∧ Hid ((zs.take k).all Fx.saneB = true)) (fun i => zs.length - (intOf i).toNat)
  case atStart => exact ⟨0, Nat.zero_le _, rfl, Lib.hid rfl⟩
  case round =>
    obtain ⟨k, hk, rfl, hs⟩ := hrel
    by_cases hlt : k < zs.length
    · have hcell := HC.out k hlt
      have HE := Lib.hid (show zs.take (k + 1) = zs.take k ++ [zs.getD k 0] by
        rw [List.take_succ_eq_append_getElem hlt, Fx.getD_at _ _ hlt])
      have HM := Lib.hid (show zs.getD k 0 ∈ zs by rw [Fx.getD_at _ _ hlt]; exact List.getElem_mem hlt)
      generalize zs.getD k 0 = x at *
      by_cases h1 : x < -2147483648
      · go_wp2
        go_ret
        refine ⟨ret_bool ?_, rfl⟩
        symm
        rw [List.all_eq_false]
        exact ⟨x, HM.out, by rw [Fx.sane_iff]; omega⟩
      · by_cases h2 : 2147483648 < x
        · go_wp2
          go_ret
          refine ⟨ret_bool ?_, rfl⟩
          symm
          rw [List.all_eq_false]
          exact ⟨x, HM.out, by rw [Fx.sane_iff]; omega⟩
        · go_wp2
          go_round
          case rel => exact ⟨k + 1, by omega, by go_num, Lib.hid (by rw [HE.out, List.all_append, hs.out]; simp [Fx.sane_iff]; omega)⟩
          case measure => simp [intOf]; omega
    · go_wp2
      go_ret
      refine ⟨ret_bool ?_, rfl⟩
      have := hs.out
      rw [List.take_of_length_le (by omega)] at this
      exact this.symm

theorem sane_1 (x : Int) (b : Nat) (w : World) (hc : w.cell? ⟨b, 0, none⟩ = some (.int .i64 x)) :
    Calls Try.prog 36 #[.slice (some ⟨b, 0, none⟩) 1 1] w fun e w' => e = .returned (.bool (Fx.saneB x)) ∧ w = w' := by
  have h := sane_any [x] b w (by simp) (by intro i hi; obtain rfl : i = 0 := by simpa using hi
                                           exact hc)
  simpa using h
theorem sane_2 (x y : Int) (b : Nat) (w : World) (hc : w.cell? ⟨b, 0, none⟩ = some (.int .i64 x)) (hd : w.cell? ⟨b, 1, none⟩ = some (.int .i64 y)) :
    Calls Try.prog 36 #[.slice (some ⟨b, 0, none⟩) 2 2] w fun e w' => e = .returned (.bool (Fx.saneB x && Fx.saneB y)) ∧ w = w' := by
  have h := sane_any [x, y] b w (by simp) (by
    intro i hi
    have : i = 0 ∨ i = 1 := by simp at hi; omega
    rcases this with rfl | rfl
    · exact hc
    · exact hd)
  simpa using h

theorem sane_new1 (x : Int) (w : World) :
    Calls Try.prog 36 #[.slice (some ⟨w.heap.size, 0, none⟩) 1 1] (w.alloc (.cells #[.int .i64 x] 25)) fun e w' => e = .returned (.bool (Fx.saneB x)) ∧ w.alloc (.cells #[.int .i64 x] 25) = w' :=
  sane_1 x _ _ (by simp [go_sem])
theorem sane_new2 (x y : Int) (w : World) :
    Calls Try.prog 36 #[.slice (some ⟨w.heap.size, 0, none⟩) 2 2] (w.alloc (.cells #[.int .i64 x, .int .i64 y] 25)) fun e w' => e = .returned (.bool (Fx.saneB x && Fx.saneB y)) ∧ w.alloc (.cells #[.int .i64 x, .int .i64 y] 25) = w' :=
  sane_2 x y _ _ (by simp [go_sem]) (by simp [go_sem])

set_option maxHeartbeats 400000 in
theorem checked_any (x : Int) (w : World) :
    Calls Try.prog 37 #[.int .i64 x] w fun e w' => e = .returned (.tuple #[.int .i64 (Fx.chkV x), .int .i64 (Fx.chkE x)]) ∧ Kept w w' := by
  by_cases h : Fx.saneB x = true
  · have HV := Lib.hid (show Fx.chkV x = x from if_pos h)
    have HE := Lib.hid (show Fx.chkE x = 0 from if_pos h)
    go_enter Try.func37, Try.ntmps37
    go_wp2_with (go_at_call 36; refine (sane_new1 x _).mono ?_; rintro e w' ⟨rfl, rfl⟩)
    go_ret2
    exact ⟨ret_ints HV.out.symm HE.out.symm, (Kept.refl _).alloc _ _⟩
  · have HV := Lib.hid (show Fx.chkV x = 0 from if_neg h)
    have HE := Lib.hid (show Fx.chkE x = 2 from if_neg h)
    have h' : Fx.saneB x = false := by simpa using h
    clear h
    go_enter Try.func37, Try.ntmps37
    go_wp2_with (go_at_call 36; refine (sane_new1 x _).mono ?_; rintro e w' ⟨rfl, rfl⟩)
    go_ret2
    exact ⟨ret_ints HV.out.symm HE.out.symm, (Kept.refl _).alloc _ _⟩

set_option maxHeartbeats 400000 in
theorem rounded_any (n d : Int) (w : World) (hn : -4611686018427387904 ≤ n) (hn' : n ≤ 4611686018427387904) (hd : -2147483648 ≤ d) (hd' : d ≤ 2147483648) (h0 : d ≠ 0) :
    Calls Try.prog 38 #[.int .i64 n, .int .i64 d] w fun e w' => e = .returned (.int .i64 (Fx.rnd n d)) ∧ ∃ k, w' = w.drewN k := by
  have hmn := Fx.mag_le (b := 4611686018427387904) hn hn'
  have hmd := Fx.mag_le (b := 2147483648) hd hd'
  obtain ⟨q0, q1⟩ := Fx.tdiv_bd n d
  obtain ⟨r0, r1⟩ := Fx.tmod_bd n d h0
  have m0 := Fx.mag_nonneg (n.tmod d)
  have m1 : Fx.mag (n.tmod d) ≤ 2147483648 := Fx.mag_le (by omega) (by omega)
  by_cases h : 2 * Fx.mag (n.tmod d) < Fx.mag d
  · have HR := Lib.hid (Fx.rnd_low h)
    go_enter Try.func38, Try.ntmps38
    go_wp2
    go_quiet (fail)
    go_wp2_with (go_at_call 48; refine (magnitude_any _ _ (by omega) (by omega)).mono ?_; rintro e w' ⟨rfl, rfl⟩)
    go_ret
    exact ⟨ret_int HR.out.symm, _, rfl⟩
  · have H1 := Lib.hid (fun hs => Fx.rnd_less (n := n) (d := d) (by omega) hs)
    have H2 := Lib.hid (fun hs => Fx.rnd_more (n := n) (d := d) (by omega) hs)
    go_enter Try.func38, Try.ntmps38
    go_wp2
    go_quiet (fail)
    generalize n.tdiv d = q at *
    generalize n.tmod d = r at *
    by_cases a : n < 0 <;> by_cases b : d < 0
    · have HR := Lib.hid (H2.out (by omega))
      have a' : decide (n < 0) = true := by simpa using a
      have b' : decide (d < 0) = true := by simpa using b
      go_wp2_with (go_at_call 48; refine (magnitude_any _ _ (by omega) (by omega)).mono ?_; rintro e w' ⟨rfl, rfl⟩)
      go_ret
      exact ⟨ret_int HR.out.symm, _, rfl⟩
    · have HR := Lib.hid (H1.out (by omega))
      have a' : decide (n < 0) = true := by simpa using a
      have b' : decide (d < 0) = false := by simpa using b
      go_wp2_with (go_at_call 48; refine (magnitude_any _ _ (by omega) (by omega)).mono ?_; rintro e w' ⟨rfl, rfl⟩)
      go_ret
      exact ⟨ret_int HR.out.symm, _, rfl⟩
    · have HR := Lib.hid (H1.out (by omega))
      have a' : decide (n < 0) = false := by simpa using a
      have b' : decide (d < 0) = true := by simpa using b
      go_wp2_with (go_at_call 48; refine (magnitude_any _ _ (by omega) (by omega)).mono ?_; rintro e w' ⟨rfl, rfl⟩)
      go_ret
      exact ⟨ret_int HR.out.symm, _, rfl⟩
    · have HR := Lib.hid (H2.out (by omega))
      have a' : decide (n < 0) = false := by simpa using a
      have b' : decide (d < 0) = false := by simpa using b
      go_wp2_with (go_at_call 48; refine (magnitude_any _ _ (by omega) (by omega)).mono ?_; rintro e w' ⟨rfl, rfl⟩)
      go_ret
      exact ⟨ret_int HR.out.symm, _, rfl⟩

end Go.Proofs.Ytkgaddlclfjkmaa
