/-
  The reference's question whether a font may be.
-/
import Derived.Test.YtkgaddlclfjkmaaMetFontArg
import Derived.BigGuard
namespace Go.Proofs.Ytkgaddlclfjkmaa
open Go.RowKit
set_option linter.unusedSimpArgs false
set_option linter.unusedVariables false

set_option maxRecDepth 100000 in
theorem RSane_any (f : Int) (X : List Int) (o : Int) (p : Option Addr) (c : Nat) (w : World) (h : IntsA w p X) (hlc : X.length ≤ c) (hcm : c ≤ maxLen) :
    Calls Try.prog 10 #[.agg #[.int .i64 f, .slice p X.length c, .int .i64 o]] w fun e w' => e = .returned (.bool (Mt.saneB f X o)) ∧ Kept w w' := by
  have HA := Lib.hid h
  have hm : X.length ≤ 9223372036854775807 := by unfold maxLen at hcm; omega
  obtain ⟨L, hL⟩ : ∃ L, L = X.length := ⟨_, rfl⟩
  have HL := Lib.hid hL
  obtain ⟨b, hb⟩ : ∃ b, b = Mt.saneB f X o := ⟨_, rfl⟩
  rw [← hb, ← hL]
  rw [← hL] at hm
  have HB := Lib.hid (show b = (decide (0 ≤ f) && decide (f ≤ 255) && decide (0 ≤ o) && decide (o ≤ 5000) && decide (L ≤ 256) && X.all fun x => decide (0 ≤ x) && decide (x ≤ 5000)) by rw [hb, hL]; rfl)
  clear h hlc hcm hL hb
  by_cases h1 : f < 0
  · have HV := Lib.hid (show b = false by rw [HB.out, decide_eq_false (show ¬ 0 ≤ f by omega)]; rfl)
    go_enter Try.func10, Try.ntmps10
    go_wp2_with fail
    go_ret
    exact ⟨by rw [HV.out]; rfl, (Kept.refl _).alloc _ _⟩
  by_cases h2 : 255 < f
  · have HV := Lib.hid (show b = false by rw [HB.out, decide_eq_false (show ¬ f ≤ 255 by omega)]; simp)
    go_enter Try.func10, Try.ntmps10
    go_wp2_with fail
    go_ret
    exact ⟨by rw [HV.out]; rfl, (Kept.refl _).alloc _ _⟩
  by_cases h3 : o < 0
  · have HV := Lib.hid (show b = false by rw [HB.out, decide_eq_false (show ¬ 0 ≤ o by omega)]; simp)
    go_enter Try.func10, Try.ntmps10
    go_wp2_with fail
    go_ret
    exact ⟨by rw [HV.out]; rfl, (Kept.refl _).alloc _ _⟩
  by_cases h4 : 5000 < o
  · have HV := Lib.hid (show b = false by rw [HB.out, decide_eq_false (show ¬ o ≤ 5000 by omega)]; simp)
    go_enter Try.func10, Try.ntmps10
    go_wp2_with fail
    go_ret
    exact ⟨by rw [HV.out]; rfl, (Kept.refl _).alloc _ _⟩
  by_cases h5 : (256 : Int) < (L : Int)
  · have HV := Lib.hid (show b = false by rw [HB.out, decide_eq_false (show ¬ L ≤ 256 by omega)]; simp)
    go_enter Try.func10, Try.ntmps10
    go_wp2_with fail
    go_ret
    exact ⟨by rw [HV.out]; rfl, (Kept.refl _).alloc _ _⟩
  have HV := Lib.hid (show b = X.all fun x => decide (0 ≤ x) && decide (x ≤ 5000) by
    rw [HB.out, decide_eq_true (show 0 ≤ f by omega), decide_eq_true (show f ≤ 255 by omega), decide_eq_true (show 0 ≤ o by omega), decide_eq_true (show o ≤ 5000 by omega), decide_eq_true (show L ≤ 256 by omega)]; rfl)
  clear HB
  go_enter Try.func10, Try.ntmps10
  go_wp2_with fail
  go_loopg [3] (L + 1) (fun m x wr => ∃ (j : Nat), m = L - j + 1 ∧ j ≤ L ∧ x = .int .i64 j ∧ Hid (∀ k (hk : k < X.length), k < j → 0 ≤ X[k] ∧ X[k] ≤ 5000) ∧ w.alloc (.cells #[.int .i64 f, .slice p L c, .int .i64 o] 24) = wr)
  case atStart => exact ⟨0, rfl, Nat.zero_le _, rfl, Lib.hid fun k _ hk => absurd hk (Nat.not_lt_zero _), rfl⟩
  case round =>
    obtain ⟨j, hmj, hj, rfl, HP, rfl⟩ := hrel
    by_cases hlt : j < L
    · have hlt2 : j < X.length := by rw [← HL.out]; exact hlt
      obtain ⟨kb, q, rfl, hkb, hc⟩ := HA.out j hlt2
      obtain ⟨x, hx⟩ : ∃ x, x = X[j] := ⟨_, rfl⟩
      rw [← hx] at hc
      have HX := Lib.hid hx
      clear hx
      have hj0 : (0 : Int) ≤ (j : Int) := by omega
      have hne : kb ≠ w.heap.size := by omega
      by_cases q1 : x < 0
      · have HF := Lib.hid (show b = false by
          rw [HV.out]
          refine List.all_eq_false.2 ⟨X[j], List.getElem_mem hlt2, ?_⟩
          rw [← HX.out, decide_eq_false (show ¬ 0 ≤ x by omega)]; simp)
        go_wp2_with fail
        go_ret
        exact ⟨by rw [HF.out]; rfl, (Kept.refl _).alloc _ _⟩
      by_cases q2 : 5000 < x
      · have HF := Lib.hid (show b = false by
          rw [HV.out]
          refine List.all_eq_false.2 ⟨X[j], List.getElem_mem hlt2, ?_⟩
          rw [← HX.out, decide_eq_false (show ¬ x ≤ 5000 by omega)]; simp)
        go_wp2_with fail
        go_ret
        exact ⟨by rw [HF.out]; rfl, (Kept.refl _).alloc _ _⟩
      go_wp2_with fail
      go_roundg (L - (j + 1) + 1)
      case measure => omega
      case rel =>
        refine ⟨j + 1, rfl, by omega, by go_num, Lib.hid fun k hk hkj => ?_, rfl⟩
        by_cases e : k = j
        · subst e
          rw [← HX.out]; exact ⟨by omega, by omega⟩
        · exact HP.out k hk (by omega)
    · obtain rfl : j = L := by omega
      have HF := Lib.hid (show b = true by
        rw [HV.out]
        refine List.all_eq_true.2 fun x hx => ?_
        obtain ⟨k, hk, rfl⟩ := List.getElem_of_mem hx
        have := HP.out k hk (by rw [HL.out]; exact hk)
        rw [decide_eq_true this.1, decide_eq_true this.2]; rfl)
      go_wp2_with fail
      go_ret
      exact ⟨by rw [HF.out]; rfl, (Kept.refl _).alloc _ _⟩

end Go.Proofs.Ytkgaddlclfjkmaa
