/-
  Numbers of a span, lengths, distances.
-/
import Derived.Test.YtpplboihlndfpaaDoorInfSym
import Derived.Deep.RegionLaw
import Derived.Deep.RegionHeld3
namespace Go.Proofs.YtpplboihlndfpaaDoor
open Go.RowKit Ix
set_option linter.unusedSimpArgs false
set_option linter.unusedVariables false

theorem SymA.cases {w : World} {B0 b : Nat} {p : Option Addr} {c : Nat} {B : List UInt8} {ov gv : Value} {r : Except Int (Nat × Nat)} {e : Ending} {w' : World} (h : SymA w B0 b p c B ov gv r e w') :
    (∃ k, r = .error k ∧ e = .panicked (thrown k) ∧ w.grownBy w' (some b)) ∨ ∃ v t', r = .ok (v, t') ∧ e = .returned (.int .i64 (v : Nat)) ∧ BiR w B0 b p c B t' ov gv w' ∧ t' ≤ 8 * B.length := by
  unfold SymA at h
  rcases r with k | ⟨v, t'⟩
  · exact .inl ⟨k, rfl, h⟩
  · exact .inr ⟨v, t', rfl, h⟩
theorem spanV_le {B : List UInt8} {s e t v t' : Nat} (hs : s < 32) (he : 1 < e) (h : spanV B s e t = .ok (v, t')) : v ≤ 4294967296 := by
  unfold spanV at h
  split at h
  · injection h with h
    injection h with h1 h2
    have hn : spanN s e ≤ 16 := by
      unfold spanN; split
      · omega
      · have : s / e ≤ s / 2 := Nat.div_le_div_left he (by decide)
        omega
    have hx := numAt_lt B t (spanN s e)
    have hp : 2 ^ spanN s e ≤ 2 ^ 16 := Nat.pow_le_pow_right (by decide) hn
    have hb : spanB s e ≤ 64 * 65536 := by
      unfold spanB; split
      · omega
      · rename_i h3
        have h4 : s % e < e := Nat.mod_lt _ (by omega)
        have h5 : spanN s e = s / e - 1 := by unfold spanN; rw [if_neg h3]
        rw [← h5]
        exact Nat.mul_le_mul (by omega) (by omega)
    omega
  · cases h
def numV (B : List UInt8) (n t : Nat) : Except Int (Nat × Nat) := if t + n ≤ 8 * B.length then .ok (numAt B n t, t + n) else .error 4
theorem number_any (n : Nat) {B0 b : Nat} {p : Option Addr} {c : Nat} {B : List UInt8} {t : Nat} {ov gv : Value} {w : World} (hn : n ≤ 16) (h : Bi w B0 b p c B t ov gv) (h8 : t ≤ 8 * B.length) (hB : B.length ≤ 1099511627776) :
    Calls Tryd.prog 77 #[.pointer (some ⟨b, 0, none⟩), .int .i64 n] w (SymA w B0 b p c B ov gv (numV B n t)) := by
  by_cases ht : t + n ≤ 8 * B.length
  · refine (number_ok n hn h ht hB).mono fun e w' ⟨h1, h2⟩ => ?_
    unfold SymA numV
    rw [if_pos ht]
    exact ⟨h1, h2, ht⟩
  · refine (number_no n hn h h8 (by omega) hB).mono fun e w' ⟨h1, h2⟩ => ?_
    unfold SymA numV
    rw [if_neg ht]
    exact ⟨h1, h2⟩

theorem number_lit (n : Nat) (z : Int) (hz : z = (n : Int)) {B0 b : Nat} {p : Option Addr} {c : Nat} {B : List UInt8} {t : Nat} {ov gv : Value} {w : World} (hn : n ≤ 16) (h : Bi w B0 b p c B t ov gv) (h8 : t ≤ 8 * B.length) (hB : B.length ≤ 1099511627776) :
    Calls Tryd.prog 77 #[.pointer (some ⟨b, 0, none⟩), .int .i64 z] w (SymA w B0 b p c B ov gv (numV B n t)) := by
  subst hz
  exact number_any n hn h h8 hB

theorem span_sum4 {s n x : Nat} (hs : s < 32) (hn : n ≤ 16) (hx : x < 2 ^ n) : IntKind.i64.wrap (IntKind.i64.wrap (IntKind.i64.wrap (4 + (s : Int).tmod 4) * 2 ^ n) + (x : Int)) = (((4 + s % 4) * 2 ^ n + x : Nat) : Int) := by
  have h1 : 2 ^ n ≤ 2 ^ 16 := Nat.pow_le_pow_right (by decide) hn
  have h2 : (4 + s % 4) * 2 ^ n ≤ 8 * 65536 := Nat.mul_le_mul (by omega) h1
  have e0 : (s : Int).tmod 4 = ((s % 4 : Nat) : Int) := by rw [Int.natCast_emod, Int.tmod_eq_emod_of_nonneg (by omega)]; rfl
  rw [e0, IntWalk.i64_in (4 + ((s % 4 : Nat) : Int)) (by omega)]
  have e : (((4 : Int) + ((s % 4 : Nat) : Int)) * 2 ^ n) = (((4 + s % 4) * 2 ^ n : Nat) : Int) := by simp
  rw [e]
  generalize (4 + s % 4) * 2 ^ n = y at h2
  rw [IntWalk.i64_in (y : Int) (by omega), IntWalk.i64_in ((y : Int) + (x : Int)) (by omega)]
  omega
set_option maxRecDepth 100000 in
theorem spanned4_any (s : Nat) {B0 b : Nat} {p : Option Addr} {c : Nat} {B : List UInt8} {t : Nat} {ov gv : Value} {w : World} (hs : s < 28) (h : Bi w B0 b p c B t ov gv) (h8 : t ≤ 8 * B.length) (hB : B.length ≤ 1099511627776) :
    Calls Tryd.prog 129 #[.pointer (some ⟨b, 0, none⟩), .int .i64 s, .int .i64 4] w (SymA w B0 b p c B ov gv (spanV B s 4 t)) := by
  have HB := Lib.hid h
  by_cases h2 : s < 8
  · have HV := Lib.hid (show spanV B s 4 t = .ok (s, t) by
      unfold spanV spanN spanB
      rw [if_pos (show s < 2 * 4 from h2), if_pos (show s < 2 * 4 from h2), if_pos (by omega)]; rfl)
    clear h
    go_enter Tryd.func129, Tryd.ntmps129
    go_wp2_with fail
    go_ret
    unfold SymA
    rw [HV.out]
    exact ⟨rfl, ⟨HB.out, gbR _ _⟩, h8⟩
  · obtain ⟨n, hn⟩ : ∃ n, n = s / 4 - 1 := ⟨_, rfl⟩
    have hn16 : n ≤ 16 := by omega
    have NA := Lib.hid (number_any n hn16 HB.out h8 hB)
    have hN : spanN s 4 = n := by unfold spanN; rw [if_neg (show ¬ s < 2 * 4 from h2), hn]
    have hSB : spanB s 4 = (4 + s % 4) * 2 ^ n := by unfold spanB; rw [if_neg (show ¬ s < 2 * 4 from h2), hn]
    have h2i : ¬ (s : Int) < 8 := by omega
    have hni : (s : Int) / 4 - 1 = (n : Int) := by omega
    by_cases ht : t + n ≤ 8 * B.length
    · have HV := Lib.hid (show spanV B s 4 t = .ok ((4 + s % 4) * 2 ^ n + numAt B n t, t + n) by
        unfold spanV; rw [hN, hSB, if_pos ht])
      have NO := Lib.hid (fun w' (k : Kept w w') => number_ok n hn16 (HB.out.kept k) ht hB)
      have hx := numAt_lt B t n
      obtain ⟨x, hxe⟩ : ∃ x, x = numAt B n t := ⟨_, rfl⟩
      rw [← hxe] at NO HV hx
      have S1 := Lib.hid (span_sum4 (s := s) (n := n) (x := x) (by omega) hn16 hx)
      have n0 : ¬ (n : Int) < 0 := by omega
      clear h hN hSB NA hn hxe hx
      go_enter Tryd.func129, Tryd.ntmps129
      go_wp2_with fail
      go_region_held3 (fun _ => True) (trivial) ((go_at_call 77; (with_reducible refine (NO.out _ (Kept.refl w).drew).mono ?_); rintro e w2 ⟨rfl, hb2, hg2⟩))
      have HB2 := Lib.hid hb2
      have HG2 := Lib.hid (gbT (gbK (Kept.refl w).drew (some b)) hg2)
      clear hb2 hg2
      go_wp2_with fail
      go_ret
      unfold SymA
      rw [HV.out]
      exact ⟨ret_int S1.out, ⟨HB2.out, HG2.out⟩, ht⟩
    · have HV := Lib.hid (show spanV B s 4 t = .error 4 by
        unfold spanV; rw [hN, if_neg ht])
      have NO := Lib.hid (fun w' (k : Kept w w') => number_no n hn16 (HB.out.kept k) h8 (by omega) hB)
      have n0 : ¬ (n : Int) < 0 := by omega
      clear h hN hSB NA hn
      go_enter Tryd.func129, Tryd.ntmps129
      go_wp2_with fail
      refine wp_region_any (by kernel_rfl) ?_
      change wpAny _ _ _ _ _ _ _ (World.drew _)
      refine wpAny_take (i := 0) (v := ?_) rfl (by kernel_rfl) (by kernel_rfl) (by kernel_rfl) (fun _ _ _ h => h) (Or.inl ⟨by rfl, (by intro w; go_simp; try with_reducible rfl)⟩) ?_
      refine wpAny_take (i := 1) (v := ?_) rfl (by kernel_rfl) (by kernel_rfl) (by kernel_rfl) (fun _ _ _ h => h) (Or.inl ⟨by rfl, (by intro w; go_simp; try with_reducible rfl)⟩) ?_
      refine wpAny_take (i := 2) (v := ?_) rfl (by kernel_rfl) (by kernel_rfl) (by kernel_rfl) (fun _ _ _ h => h) (Or.inl ⟨by rfl, (by intro w; go_simp; try with_reducible rfl)⟩) ?_
      refine wpAny_take (i := 3) (v := ?_) rfl (by kernel_rfl) (by kernel_rfl) (by kernel_rfl) (fun _ _ _ h => h) (Or.inl ⟨by rfl, (by intro w; go_simp; try with_reducible rfl)⟩) ?_
      refine wpAny_take (i := 4) (v := ?_) rfl (by kernel_rfl) (by kernel_rfl) (by kernel_rfl) (fun _ _ _ h => h) (Or.inl ⟨by rfl, (by intro w; go_simp; try with_reducible rfl)⟩) ?_
      refine wpAny_take (i := 5) (v := ?_) rfl (by kernel_rfl) (by kernel_rfl) (by kernel_rfl) (fun _ _ _ h => h) (Or.inl ⟨by rfl, (by intro w; go_simp; try with_reducible rfl)⟩) ?_
      refine wpAny_take (i := 6) (v := ?_) rfl (by kernel_rfl) (by kernel_rfl) (by kernel_rfl) (fun _ _ _ h => h) (Or.inl ⟨by rfl, (by intro w; go_simp; try with_reducible rfl)⟩) ?_
      refine wpAny_take (i := 7) (v := ?_) rfl (by kernel_rfl) (by kernel_rfl) (by kernel_rfl) (fun _ _ _ h => h) (Or.inl ⟨by rfl, (by intro w; go_simp; try with_reducible rfl)⟩) ?_
      refine wpAny_take (i := 8) (v := ?_) rfl (by kernel_rfl) (by kernel_rfl) (by kernel_rfl) (fun _ _ _ h => h) (Or.inl ⟨by rfl, (by intro w; go_simp; try with_reducible rfl)⟩) ?_
      refine wpAny_take (i := 9) (v := ?_) rfl (by kernel_rfl) (by kernel_rfl) (by kernel_rfl) (fun _ _ _ h => h) (Or.inl ⟨by rfl, (by intro w; go_simp; try with_reducible rfl)⟩) ?_
      refine wpAny_take (i := 10) (v := ?_) rfl (by kernel_rfl) (by kernel_rfl) (by kernel_rfl) (fun _ _ _ h => h) (Or.inl ⟨by rfl, (by intro w; go_simp; try with_reducible rfl)⟩) ?_
      refine wpAny_ready (rs := [11]) (by kernel_rfl) (by simp) ?_
      refine AllReady.cons rfl (fun K hK => ?_) AllReady.nil
      go_simp
      go_wp2_with fail
      (with_reducible refine (NO.out _ (Kept.refl w).drew).mono ?_)
      rintro e w2 ⟨rfl, hg2⟩
      refine ⟨rfl, ?_⟩
      unfold SymA
      rw [HV.out]
      exact ⟨rfl, gbT (gbK (Kept.refl w).drew (some b)) hg2⟩

theorem span_sum2 {s n x : Nat} (hs : s < 32) (hn : n ≤ 16) (hx : x < 2 ^ n) : IntKind.i64.wrap (IntKind.i64.wrap (IntKind.i64.wrap (2 + (s : Int).tmod 2) * 2 ^ n) + (x : Int)) = (((2 + s % 2) * 2 ^ n + x : Nat) : Int) := by
  have h1 : 2 ^ n ≤ 2 ^ 16 := Nat.pow_le_pow_right (by decide) hn
  have h2 : (2 + s % 2) * 2 ^ n ≤ 8 * 65536 := Nat.mul_le_mul (by omega) h1
  have e0 : (s : Int).tmod 2 = ((s % 2 : Nat) : Int) := by rw [Int.natCast_emod, Int.tmod_eq_emod_of_nonneg (by omega)]; rfl
  rw [e0, IntWalk.i64_in (2 + ((s % 2 : Nat) : Int)) (by omega)]
  have e : (((2 : Int) + ((s % 2 : Nat) : Int)) * 2 ^ n) = (((2 + s % 2) * 2 ^ n : Nat) : Int) := by simp
  rw [e]
  generalize (2 + s % 2) * 2 ^ n = y at h2
  rw [IntWalk.i64_in (y : Int) (by omega), IntWalk.i64_in ((y : Int) + (x : Int)) (by omega)]
  omega
set_option maxRecDepth 100000 in
theorem spanned2_any (s : Nat) {B0 b : Nat} {p : Option Addr} {c : Nat} {B : List UInt8} {t : Nat} {ov gv : Value} {w : World} (hs : s < 30) (h : Bi w B0 b p c B t ov gv) (h8 : t ≤ 8 * B.length) (hB : B.length ≤ 1099511627776) :
    Calls Tryd.prog 129 #[.pointer (some ⟨b, 0, none⟩), .int .i64 s, .int .i64 2] w (SymA w B0 b p c B ov gv (spanV B s 2 t)) := by
  have HB := Lib.hid h
  by_cases h2 : s < 4
  · have HV := Lib.hid (show spanV B s 2 t = .ok (s, t) by
      unfold spanV spanN spanB
      rw [if_pos (show s < 2 * 2 from h2), if_pos (show s < 2 * 2 from h2), if_pos (by omega)]; rfl)
    clear h
    go_enter Tryd.func129, Tryd.ntmps129
    go_wp2_with fail
    go_ret
    unfold SymA
    rw [HV.out]
    exact ⟨rfl, ⟨HB.out, gbR _ _⟩, h8⟩
  · obtain ⟨n, hn⟩ : ∃ n, n = s / 2 - 1 := ⟨_, rfl⟩
    have hn16 : n ≤ 16 := by omega
    have NA := Lib.hid (number_any n hn16 HB.out h8 hB)
    have hN : spanN s 2 = n := by unfold spanN; rw [if_neg (show ¬ s < 2 * 2 from h2), hn]
    have hSB : spanB s 2 = (2 + s % 2) * 2 ^ n := by unfold spanB; rw [if_neg (show ¬ s < 2 * 2 from h2), hn]
    have h2i : ¬ (s : Int) < 4 := by omega
    have hni : (s : Int) / 2 - 1 = (n : Int) := by omega
    by_cases ht : t + n ≤ 8 * B.length
    · have HV := Lib.hid (show spanV B s 2 t = .ok ((2 + s % 2) * 2 ^ n + numAt B n t, t + n) by
        unfold spanV; rw [hN, hSB, if_pos ht])
      have NO := Lib.hid (fun w' (k : Kept w w') => number_ok n hn16 (HB.out.kept k) ht hB)
      have hx := numAt_lt B t n
      obtain ⟨x, hxe⟩ : ∃ x, x = numAt B n t := ⟨_, rfl⟩
      rw [← hxe] at NO HV hx
      have S1 := Lib.hid (span_sum2 (s := s) (n := n) (x := x) (by omega) hn16 hx)
      have n0 : ¬ (n : Int) < 0 := by omega
      clear h hN hSB NA hn hxe hx
      go_enter Tryd.func129, Tryd.ntmps129
      go_wp2_with fail
      go_region_held3 (fun _ => True) (trivial) ((go_at_call 77; (with_reducible refine (NO.out _ (Kept.refl w).drew).mono ?_); rintro e w2 ⟨rfl, hb2, hg2⟩))
      have HB2 := Lib.hid hb2
      have HG2 := Lib.hid (gbT (gbK (Kept.refl w).drew (some b)) hg2)
      clear hb2 hg2
      go_wp2_with fail
      go_ret
      unfold SymA
      rw [HV.out]
      exact ⟨ret_int S1.out, ⟨HB2.out, HG2.out⟩, ht⟩
    · have HV := Lib.hid (show spanV B s 2 t = .error 4 by
        unfold spanV; rw [hN, if_neg ht])
      have NO := Lib.hid (fun w' (k : Kept w w') => number_no n hn16 (HB.out.kept k) h8 (by omega) hB)
      have n0 : ¬ (n : Int) < 0 := by omega
      clear h hN hSB NA hn
      go_enter Tryd.func129, Tryd.ntmps129
      go_wp2_with fail
      refine wp_region_any (by kernel_rfl) ?_
      change wpAny _ _ _ _ _ _ _ (World.drew _)
      refine wpAny_take (i := 0) (v := ?_) rfl (by kernel_rfl) (by kernel_rfl) (by kernel_rfl) (fun _ _ _ h => h) (Or.inl ⟨by rfl, (by intro w; go_simp; try with_reducible rfl)⟩) ?_
      refine wpAny_take (i := 1) (v := ?_) rfl (by kernel_rfl) (by kernel_rfl) (by kernel_rfl) (fun _ _ _ h => h) (Or.inl ⟨by rfl, (by intro w; go_simp; try with_reducible rfl)⟩) ?_
      refine wpAny_take (i := 2) (v := ?_) rfl (by kernel_rfl) (by kernel_rfl) (by kernel_rfl) (fun _ _ _ h => h) (Or.inl ⟨by rfl, (by intro w; go_simp; try with_reducible rfl)⟩) ?_
      refine wpAny_take (i := 3) (v := ?_) rfl (by kernel_rfl) (by kernel_rfl) (by kernel_rfl) (fun _ _ _ h => h) (Or.inl ⟨by rfl, (by intro w; go_simp; try with_reducible rfl)⟩) ?_
      refine wpAny_take (i := 4) (v := ?_) rfl (by kernel_rfl) (by kernel_rfl) (by kernel_rfl) (fun _ _ _ h => h) (Or.inl ⟨by rfl, (by intro w; go_simp; try with_reducible rfl)⟩) ?_
      refine wpAny_take (i := 5) (v := ?_) rfl (by kernel_rfl) (by kernel_rfl) (by kernel_rfl) (fun _ _ _ h => h) (Or.inl ⟨by rfl, (by intro w; go_simp; try with_reducible rfl)⟩) ?_
      refine wpAny_take (i := 6) (v := ?_) rfl (by kernel_rfl) (by kernel_rfl) (by kernel_rfl) (fun _ _ _ h => h) (Or.inl ⟨by rfl, (by intro w; go_simp; try with_reducible rfl)⟩) ?_
      refine wpAny_take (i := 7) (v := ?_) rfl (by kernel_rfl) (by kernel_rfl) (by kernel_rfl) (fun _ _ _ h => h) (Or.inl ⟨by rfl, (by intro w; go_simp; try with_reducible rfl)⟩) ?_
      refine wpAny_take (i := 8) (v := ?_) rfl (by kernel_rfl) (by kernel_rfl) (by kernel_rfl) (fun _ _ _ h => h) (Or.inl ⟨by rfl, (by intro w; go_simp; try with_reducible rfl)⟩) ?_
      refine wpAny_take (i := 9) (v := ?_) rfl (by kernel_rfl) (by kernel_rfl) (by kernel_rfl) (fun _ _ _ h => h) (Or.inl ⟨by rfl, (by intro w; go_simp; try with_reducible rfl)⟩) ?_
      refine wpAny_take (i := 10) (v := ?_) rfl (by kernel_rfl) (by kernel_rfl) (by kernel_rfl) (fun _ _ _ h => h) (Or.inl ⟨by rfl, (by intro w; go_simp; try with_reducible rfl)⟩) ?_
      refine wpAny_ready (rs := [11]) (by kernel_rfl) (by simp) ?_
      refine AllReady.cons rfl (fun K hK => ?_) AllReady.nil
      go_simp
      go_wp2_with fail
      (with_reducible refine (NO.out _ (Kept.refl w).drew).mono ?_)
      rintro e w2 ⟨rfl, hg2⟩
      refine ⟨rfl, ?_⟩
      unfold SymA
      rw [HV.out]
      exact ⟨rfl, gbT (gbK (Kept.refl w).drew (some b)) hg2⟩

set_option maxRecDepth 100000 in
theorem length_any (s : Nat) {B0 b : Nat} {p : Option Addr} {c : Nat} {B : List UInt8} {t : Nat} {ov gv : Value} {w : World} (h1 : 257 ≤ s) (h2 : s ≤ 285) (h : Bi w B0 b p c B t ov gv) (h8 : t ≤ 8 * B.length) (hB : B.length ≤ 1099511627776) :
    Calls Tryd.prog 110 #[.pointer (some ⟨b, 0, none⟩), .int .i64 s] w (SymA w B0 b p c B ov gv (lenV B s t)) := by
  have HB := Lib.hid h
  by_cases e : s = 285
  · have HV := Lib.hid (show lenV B s t = .ok (258, t) from if_pos e)
    subst e
    clear h
    go_enter Tryd.func110, Tryd.ntmps110
    go_wp2_with fail
    go_ret
    unfold SymA
    rw [HV.out]
    exact ⟨rfl, ⟨HB.out, gbR _ _⟩, h8⟩
  · obtain ⟨k, rfl⟩ : ∃ k, s = 257 + k := ⟨s - 257, by omega⟩
    have HE := Lib.hid e
    have hsub : 257 + (k : Int) - 257 = (k : Int) := by omega
    have SA := Lib.hid (spanned4_any k (by omega) h h8 hB)
    have e2 : ((257 + k : Nat) : Int) = 257 + (k : Int) := by omega
    have e3 : ((257 + (k : Int)) == 285) = false := by rw [beq_eq_false_iff_ne]; omega
    have hv3 : ∀ v t', spanV B k 4 t = .ok (v, t') → v ≤ 4294967296 := fun v t' h => spanV_le (by omega) (by omega) h
    have HV3 := Lib.hid hv3
    rw [e2]
    clear h e e2 hv3
    go_enter Tryd.func110, Tryd.ntmps110
    go_wp2_with fail
    (with_reducible refine SA.out.mono ?_)
    intro e w2 hs
    rcases hs.cases with ⟨k', hr, rfl, hg⟩ | ⟨v, t', hr, rfl, hb, ht⟩
    · have HR := Lib.hid (show lenV B (257 + k) t = .error k' by unfold lenV; rw [if_neg HE.out, show 257 + k - 257 = k by omega, hr])
      clear hs hr
      go_wp2_with fail
      refine ⟨rfl, ?_⟩
      unfold SymA
      rw [HR.out]
      exact ⟨rfl, hg⟩
    · have HR := Lib.hid (show lenV B (257 + k) t = .ok (3 + v, t') by unfold lenV; rw [if_neg HE.out, show 257 + k - 257 = k by omega, hr])
      have hv := HV3.out v t' hr
      have HBB := Lib.hid hb
      clear hs hr hb
      go_wp2_with fail
      go_ret
      unfold SymA
      rw [HR.out]
      exact ⟨ret_int (by omega), HBB.out, ht⟩

set_option maxRecDepth 100000 in
theorem distance_any (D : List Nat) (fp : Nat → Prop) (tb : Nat) {B0 b : Nat} {p : Option Addr} {c : Nat} {B : List UInt8} {t : Nat} {ov gv : Value} {w : World} (h : Bi w B0 b p c B t ov gv) (h8 : t ≤ 8 * B.length) (hB : B.length ≤ 1099511627776)
    (hT : Tree w fp tb D) (hne : ¬ fp b) (hL : D.length ≤ 65536) :
    Calls Tryd.prog 112 #[.pointer (some ⟨b, 0, none⟩), .pointer (some ⟨tb, 0, none⟩)] w (SymA w B0 b p c B ov gv (distV D B t)) := by
  have SY := Lib.hid (symbol_any D fp tb h h8 hB hT hne hL)
  have hp := run_thrown
  clear h hT
  go_enter Tryd.func112, Tryd.ntmps112
  go_wp2_with fail
  (with_reducible refine SY.out.mono ?_)
  intro e w2 hs
  rcases hs.cases with ⟨k', hr, rfl, hg⟩ | ⟨s, t', hr, rfl, hb, ht⟩
  · have HR := Lib.hid (show distV D B t = .error k' by unfold distV; rw [hr])
    clear hs hr
    go_wp2_with fail
    refine ⟨rfl, ?_⟩
    unfold SymA
    rw [HR.out]
    exact ⟨rfl, hg⟩
  · by_cases h29 : 29 < s
    · have HR := Lib.hid (show distV D B t = .error 3 by unfold distV; rw [hr]; exact if_pos h29)
      have HG := Lib.hid hb.2
      have i29 : (29 : Int) < (s : Int) := by omega
      clear hs hr hb
      go_wp2_with fail
      refine ⟨rfl, ?_⟩
      unfold SymA
      rw [HR.out]
      exact ⟨rfl, HG.out⟩
    · have HV := Lib.hid (show ∀ r, spanV B s 2 t' = r → distV D B t = (match r with | .error e => .error e | .ok (v, t'') => .ok (1 + v, t'')) by intro r h; unfold distV; rw [hr]; show (if 29 < s then _ else _) = _; rw [if_neg h29, h]; cases r <;> rfl)
      have HG := Lib.hid hb.2
      have SA := Lib.hid (spanned2_any s (by omega) hb.1 ht hB)
      have HV3 := Lib.hid (show ∀ v t'', spanV B s 2 t' = .ok (v, t'') → v ≤ 4294967296 from fun v t'' h => spanV_le (by omega) (by omega) h)
      have i29 : ¬ (29 : Int) < (s : Int) := by omega
      clear hs hr hb
      go_wp2_with fail
      (with_reducible refine SA.out.mono ?_)
      intro e w3 hs
      rcases hs.cases with ⟨k', hr, rfl, hg⟩ | ⟨v, t3, hr, rfl, hb, ht3⟩
      · have HR := Lib.hid (show distV D B t = .error k' from HV.out _ hr)
        clear hs hr
        go_wp2_with fail
        refine ⟨rfl, ?_⟩
        unfold SymA
        rw [HR.out]
        exact ⟨rfl, gbT HG.out hg⟩
      · have HR := Lib.hid (show distV D B t = .ok (1 + v, t3) from HV.out _ hr)
        have hv := HV3.out v t3 hr
        have HBB := Lib.hid hb
        clear hs hr hb
        go_wp2_with fail
        go_ret
        unfold SymA
        rw [HR.out]
        exact ⟨ret_int (by omega), ⟨HBB.out.1, gbT HG.out HBB.out.2⟩, ht3⟩

end Go.Proofs.YtpplboihlndfpaaDoor
