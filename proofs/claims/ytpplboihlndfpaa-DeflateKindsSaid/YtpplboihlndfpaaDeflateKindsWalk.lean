/-
  What is no kind is none.
-/
import Derived.Test.YtpplboihlndfpaaDefAwake
namespace Go.Proofs.Ytpplboihlndfpaa
open Go.RowKit Ix Dx
set_option linter.unusedSimpArgs false
set_option linter.unusedVariables false

theorem zlibZ_ok {b : List UInt8} {kind : Int} {r : List UInt8} (h : rawZ b kind = .ok r) : zlibZ b kind = .ok ([120, 1] ++ r ++ sumB (adler b)) := by unfold zlibZ; rw [h]
theorem zlibZ_no {b : List UInt8} {kind : Int} {k : Int} (h : rawZ b kind = .error k) : zlibZ b kind = .error k := by unfold zlibZ; rw [h]
theorem rawZ_ok {b : List UInt8} {kind : Int} (h : b.length ≤ 1048576) (hk : kind = 0 ∨ kind = 1) : ∃ r, rawZ b kind = .ok r := by
  unfold rawZ
  rw [if_neg (by omega), if_neg (by omega)]
  split
  · exact ⟨_, rfl⟩
  · exact ⟨_, rfl⟩
theorem rawZ_no {b : List UInt8} {kind : Int} (h0 : kind ≠ 0) (h1 : kind ≠ 1) : rawZ b kind = .error 1 := if_pos ⟨h0, h1⟩

set_option maxRecDepth 100000 in
set_option maxHeartbeats 4000000 in
theorem DeflateKinds_walk (kind : Int) (v : Value) (b : List UInt8) (w : World) (hk : -9223372036854775808 ≤ kind ∧ kind ≤ 9223372036854775807) (h : ByArg w v b) :
    Calls Try.prog 7 #[.int .i64 kind, v] w fun e w' => e = .returned (.bool true) ∧ Kept w w' := by
  obtain ⟨p, c, rfl, hb, hlc, hlm, hpn⟩ := h
  have HB := Lib.hid hb
  have AW := Lib.hid (awake7_any w)
  clear hb
  by_cases hbig : 500 < b.length
  · have i1 : (500 : Int) < (b.length : Int) := by omega
    go_enter Try.func7, Try.ntmps7
    go_wp2_with fail
    (with_reducible refine AW.out.mono ?_)
    rintro e w1 ⟨rfl, hk1⟩
    have K1 := Lib.hid hk1
    clear hk1
    go_wp2_with fail
    go_ret
    exact ⟨rfl, K1.out⟩
  have i1 : ¬ (500 : Int) < (b.length : Int) := by omega
  have RW := Lib.hid (fun w' (k : Kept w w') => defRaw_any b kind p c w' (fun i hi => by
    obtain ⟨kb, o, h1, h2, h3⟩ := (HB.out.keep (Nat.le_refl _) k) i hi
    exact ⟨kb, o, h1, by have := Below.size k; omega, h3⟩) hlc hpn (by omega) hk)
  have ZL := Lib.hid (fun w' (k : Kept w w') => defZlib_any b kind p c w' (fun i hi => by
    obtain ⟨kb, o, h1, h2, h3⟩ := (HB.out.keep (Nat.le_refl _) k) i hi
    exact ⟨kb, o, h1, by have := Below.size k; omega, h3⟩) hlc hpn (by omega) hk)
  by_cases hkk : kind = 0 ∨ kind = 1
  · obtain ⟨r, hr⟩ := rawZ_ok (b := b) (by omega) hkk
    rw [hr] at RW
    rw [zlibZ_ok hr] at ZL
    rcases hkk with rfl | rfl
    all_goals
      clear hr
      go_enter Try.func7, Try.ntmps7
      go_wp2_with fail
      (with_reducible refine AW.out.mono ?_)
      rintro e w1 ⟨rfl, hk1⟩
      have K1 := Lib.hid hk1
      clear hk1
      go_wp2_with fail
      (with_reducible refine (RW.out _ K1.out).mono ?_)
      rintro e w2 ⟨hk2, v2, rfl, -⟩
      have K2 := Lib.hid (K1.out.trans hk2)
      clear hk2
      go_wp2_with fail
      (with_reducible refine (ZL.out _ K2.out).mono ?_)
      rintro e w3 ⟨hk3, v3, rfl, -⟩
      have K3 := Lib.hid (K2.out.trans hk3)
      clear hk3
      go_wp2_with fail
      go_ret
      exact ⟨rfl, K3.out⟩
  · have hr := rawZ_no (b := b) (show kind ≠ 0 by omega) (show kind ≠ 1 by omega)
    rw [hr] at RW
    rw [zlibZ_no hr] at ZL
    have e0 : (kind == 0) = false := by rw [beq_eq_false_iff_ne]; omega
    have e1 : (kind == 1) = false := by rw [beq_eq_false_iff_ne]; omega
    clear hr hkk
    go_enter Try.func7, Try.ntmps7
    go_wp2_with fail
    (with_reducible refine AW.out.mono ?_)
    rintro e w1 ⟨rfl, hk1⟩
    have K1 := Lib.hid hk1
    clear hk1
    go_wp2_with fail
    (with_reducible refine (RW.out _ K1.out).mono ?_)
    rintro e w2 ⟨hk2, rfl⟩
    have K2 := Lib.hid (K1.out.trans hk2)
    clear hk2
    go_wp2_with fail
    (with_reducible refine (ZL.out _ K2.out).mono ?_)
    rintro e w3 ⟨hk3, rfl⟩
    have K3 := Lib.hid (K2.out.trans hk3)
    clear hk3
    go_wp2_with fail
    go_ret
    exact ⟨rfl, K3.out⟩

end Go.Proofs.Ytpplboihlndfpaa
