/-
  The reference of package xref: a number in so many digits; a number's digits.
-/
import Derived.Test.YtoablpaehhjchaaGreatDoorXrfM
import Derived.Test.YtoablpaehhjchaaGreatDoorXBase
import Derived.Lib.Hide
import Derived.Deep.LoopGhost
import Derived.Deep.QuietTactic
import Derived.Deep.RegionLaw
import Derived.Deep.RegionHeld3
import Derived.Deep.DeepCutAuto
namespace Go.Proofs.YtoablpaehhjchaaGreatDoor
open Go.RowKit Rx
set_option linter.unusedSimpArgs false
set_option linter.unusedVariables false

theorem digs_front : ∀ (i n : Nat), digs (i + 1) n = UInt8.ofNat (48 + n / 10 ^ i % 10) :: digs i n
  | 0, n => by simp [digs]
  | i + 1, n => by
    rw [digs, digs_front i (n / 10), Nat.div_div_eq_div_mul, ← Nat.pow_succ']
    rfl
theorem digit_ex (d : Nat) (hd : d < 10) : (⟨#[48, 49, 50, 51, 52, 53, 54, 55, 56, 57]⟩ : ByteArray).extract d (d + 1) = ⟨#[UInt8.ofNat (48 + d)]⟩ := by
  rcases (show d = 0 ∨ d = 1 ∨ d = 2 ∨ d = 3 ∨ d = 4 ∨ d = 5 ∨ d = 6 ∨ d = 7 ∨ d = 8 ∨ d = 9 by omega) with rfl | rfl | rfl | rfl | rfl | rfl | rfl | rfl | rfl | rfl
  all_goals rfl
theorem digs_cat (i n : Nat) (N : Nat) (hN : N = n / 10 ^ i) : (⟨#[48, 49, 50, 51, 52, 53, 54, 55, 56, 57]⟩ : ByteArray).extract (N % 10) (N % 10 + 1) ++ ⟨(digs i n).toArray⟩ = ⟨(digs (i + 1) n).toArray⟩ := by
  rw [digit_ex _ (Nat.mod_lt _ (by decide)), digs_front, ← hN]
  apply ByteArray.ext
  rw [ByteArray.data_append]
  simp

set_option maxRecDepth 100000 in
theorem digit_slice (N : Nat) (W : World) :
    (Instr.slice 9 (.string ⟨#[48, 49, 50, 51, 52, 53, 54, 55, 56, 57]⟩) (some (.int .i64 ((N : Int) % 10))) (some (.int .i64 ((N : Int) % 10 + 1))) none).run Tryz.prog W = .ok (.string ((⟨#[48, 49, 50, 51, 52, 53, 54, 55, 56, 57]⟩ : ByteArray).extract (N % 10) (N % 10 + 1))) W := by
  obtain ⟨d, hd⟩ : ∃ d, d = N % 10 := ⟨_, rfl⟩
  have e : (N : Int) % 10 = (d : Int) := by omega
  have hlt : d < 10 := by omega
  rw [e, ← hd]
  have h := run_slice_string (P := Tryz.prog) W 9 ⟨#[48, 49, 50, 51, 52, 53, 54, 55, 56, 57]⟩ .i64 .i64 (d : Int) ((d : Int) + 1) Tryz.underlying9 (by omega) (by omega) (by show (d : Int) + 1 ≤ ((10 : Nat) : Int); omega)
  rw [h]
  rfl

set_option maxRecDepth 100000 in
set_option maxHeartbeats 4000000 in
theorem rdigits_any (n k : Nat) (w : World) (hn : n ≤ 9223372036854775807) (hk : k ≤ 100) :
    Calls Tryz.prog 30 #[.int .i64 n, .int .i64 k] w fun e w' => e = .returned (.string ⟨(digs k n).toArray⟩) ∧ Kept w w' := by
  have HN := Lib.hid hn
  clear hn
  go_enter Tryz.func30, Tryz.ntmps30
  go_wp2_with fail
  go_loopg [0, 5, 6] (k + 1) (fun x nv s i wr => ∃ j : Nat, x = k + 1 - j ∧ j ≤ k ∧ nv = .int .i64 ((n / 10 ^ j : Nat) : Int) ∧ i = .int .i64 j ∧ s = .string ⟨(digs j n).toArray⟩ ∧ Kept w wr)
  case atStart => exact ⟨0, rfl, Nat.zero_le _, by simp, rfl, rfl, Kept.refl w⟩
  case round =>
    obtain ⟨j, hx, hj, rfl, rfl, rfl, hkp⟩ := hrel
    have KR := Lib.hid hkp
    clear hkp
    by_cases hlt : j < k
    · have j1 : (j : Int) < (k : Int) := by omega
      obtain ⟨N, hN⟩ : ∃ N, N = n / 10 ^ j := ⟨_, rfl⟩
      have hNb : N ≤ 9223372036854775807 := by rw [hN]; exact Nat.le_trans (Nat.div_le_self _ _) HN.out
      have hN10 : N / 10 = n / 10 ^ (j + 1) := by rw [hN, Nat.div_div_eq_div_mul, ← Nat.pow_succ]
      have HC := Lib.hid (digs_cat j n N hN)
      have HT := Lib.hid hN10
      obtain ⟨D, hD⟩ : ∃ D : ByteArray, D = ⟨(digs j n).toArray⟩ := ⟨_, rfl⟩
      have hDz : D.size ≤ 100 := by rw [hD]; show (digs j n).toArray.size ≤ 100; simp [digs_len]; omega
      rw [← hD] at HC ⊢
      rw [← hN]
      clear hN hN10 hD
      have hN0 : (0 : Int) ≤ (N : Int) := by omega
      have ks := fun W => digit_slice N W
      go_wp2_with fail
      go_roundg (k + 1 - (j + 1))
      case measure => omega
      case rel => exact ⟨j + 1, rfl, by omega, by rw [← HT.out]; rfl, by go_num, by rw [← HC.out], by first | exact KR.out.drewN _ | exact KR.out⟩
    · have j1 : ¬ (j : Int) < (k : Int) := by omega
      obtain rfl : j = k := by omega
      go_wp2_with fail
      go_ret
      exact ⟨rfl, KR.out⟩

set_option maxRecDepth 100000 in
set_option maxHeartbeats 4000000 in
theorem rplain_any (n : Nat) (w : World) (hn : n ≤ 9223372036854775807) :
    Calls Tryz.prog 29 #[.int .i64 n] w fun e w' => e = .returned (.string ⟨(Lib.decDigits n).toArray⟩) ∧ Kept w w' := by
  have hd20 : Lib.nDigits n ≤ 20 := by have := Lib.numDigits_eq (n + 1) (by omega) (by omega); have h2 := (nDigits_le_iff (k := 20) (by decide) (n := n)).2 (by omega); exact h2
  have CD := Lib.hid (fun W => show Calls Tryz.prog 30 #[.int .i64 n, .int .i64 (Lib.nDigits n : Nat)] W fun e w' => e = .returned (.string ⟨(Lib.decDigits n).toArray⟩) ∧ Kept W w' from by
    have := rdigits_any n (Lib.nDigits n) W hn (by omega)
    rwa [digs_all] at this)
  have HN := Lib.hid hn
  have HD := Lib.hid hd20
  clear hn hd20
  go_enter Tryz.func29, Tryz.ntmps29
  go_wp2_with fail
  go_loopg [3, 4] (n + 1) (fun x kv mv wr => ∃ k m : Nat, x = m + 1 ∧ 1 ≤ k ∧ k ≤ 20 ∧ kv = .int .i64 k ∧ mv = .int .i64 m ∧ m ≤ n ∧ Hid (k + Lib.nDigits m = Lib.nDigits n + 1) ∧ Kept w wr)
  case atStart => exact ⟨1, n, rfl, Nat.le_refl _, by omega, rfl, rfl, Nat.le_refl _, Lib.hid (by omega), Kept.refl w⟩
  case round =>
    obtain ⟨k, m, hx, hk1, hk2, rfl, rfl, hmn, HE, hkp⟩ := hrel
    have KR := Lib.hid hkp
    have hm63 := Nat.le_trans hmn HN.out
    clear hkp
    have hm0 : (0 : Int) ≤ (m : Int) := by omega
    by_cases hlt : 10 ≤ m
    · have j1 : (10 : Int) ≤ (m : Int) := by omega
      have HE2 := Lib.hid (show k + 1 + Lib.nDigits (m / 10) = Lib.nDigits n + 1 by have := HE.out; rw [Lib.nDigits_big (by omega)] at this; omega)
      have hk19 : k + 1 ≤ 20 := by have := HE2.out; have := HD.out; have := Lib.nDigits_pos (m / 10); omega
      go_wp2_with fail
      go_roundg (m / 10 + 1)
      case measure => omega
      case rel => exact ⟨k + 1, m / 10, rfl, by omega, hk19, by go_num, by rfl, by omega, HE2, KR.out⟩
    · have j1 : ¬ (10 : Int) ≤ (m : Int) := by omega
      have hk : k = Lib.nDigits n := by have := HE.out; rw [Lib.nDigits_small (by omega)] at this; omega
      rw [hk]
      go_wp2_with fail
      (with_reducible refine (CD.out _).mono ?_)
      rintro e w2 ⟨rfl, hk2'⟩
      go_wp2_with fail
      go_ret
      exact ⟨rfl, KR.out.trans hk2'⟩

end Go.Proofs.YtoablpaehhjchaaGreatDoor
