/-
  The reference's Zlib.
-/
import Derived.Test.YtpplboihlndfpaaDefRefRaw0
namespace Go.Proofs.Ytpplboihlndfpaa
open Go.RowKit Ix Dx
set_option linter.unusedSimpArgs false
set_option linter.unusedVariables false

set_option maxRecDepth 100000 in
set_option maxHeartbeats 4000000 in
theorem refZlib_any (b : List UInt8) (kind : Int) (p : Option Addr) (c : Nat) (w : World) (h : ByR w w.heap.size p b) (hc : b.length ≤ c) (hp : p = none → c = 0) (hB : b.length ≤ 500) (hk : -9223372036854775808 ≤ kind ∧ kind ≤ 9223372036854775807) :
    Calls Try.prog 12 #[.slice p b.length c, .int .i64 kind] w (DRawA w (zlibZ b kind)) := by
  have HB := Lib.hid h
  have RW := Lib.hid (refRaw_any b kind p c w h hc hp hB hk)
  clear h
  go_enter Try.func12, Try.ntmps12
  go_wp2_with fail
  (with_reducible refine RW.out.mono ?_)
  intro e w1 hr
  unfold DRawA at hr
  obtain ⟨hk1, hr⟩ := hr
  have K1 := Lib.hid hk1
  have hs1 := Below.size hk1
  clear hk1
  cases hV : rawZ b kind with
  | error k =>
    rw [hV] at hr
    subst hr
    have HZ := Lib.hid (show zlibZ b kind = .error k by unfold zlibZ; rw [hV])
    have hk0 : (k != 0) = true := by
      rw [bne_iff_ne]
      unfold rawZ at hV
      split at hV
      · injection hV with hV; omega
      · split at hV
        · injection hV with hV; omega
        · split at hV <;> cases hV
    clear hV
    go_wp2_with fail
    go_ret2
    unfold DRawA
    rw [HZ.out]
    exact ⟨K1.out, rfl⟩
  | ok r =>
    rw [hV] at hr
    obtain ⟨v, rfl, hov⟩ := hr
    have HZ := Lib.hid (show zlibZ b kind = .ok ([120, 1] ++ r ++ sumB (adler b)) by unfold zlibZ; rw [hV])
    have hrl := rawZ_len hV
    have OV := Lib.hid hov
    clear hov hV
    obtain ⟨n, hn⟩ : ∃ n, n = adler b := ⟨_, rfl⟩
    have hnl : n < 4294967296 := by rw [hn]; exact adler_lt' b
    obtain ⟨m1, h1⟩ : ∃ m1, m1 = n / 16777216 := ⟨_, rfl⟩
    obtain ⟨k2, hk2⟩ : ∃ k2, k2 = n / 65536 := ⟨_, rfl⟩
    obtain ⟨k3, hk3⟩ : ∃ k3, k3 = n / 256 := ⟨_, rfl⟩
    obtain ⟨m2, h2⟩ : ∃ m2, m2 = n / 65536 % 256 := ⟨_, rfl⟩
    obtain ⟨m3, h3⟩ : ∃ m3, m3 = n / 256 % 256 := ⟨_, rfl⟩
    obtain ⟨m4, h4⟩ : ∃ m4, m4 = n % 256 := ⟨_, rfl⟩
    have s1 : (n : Int) / 16777216 = (m1 : Int) := by omega
    have s1t : (n : Int).tdiv 16777216 = (m1 : Int) := by rw [Int.tdiv_eq_ediv_of_nonneg (by omega)]; exact s1
    have s2 : (n : Int) / 65536 = (k2 : Int) := by omega
    have s2t : (n : Int).tdiv 65536 = (k2 : Int) := by rw [Int.tdiv_eq_ediv_of_nonneg (by omega)]; exact s2
    have s3 : (n : Int) / 256 = (k3 : Int) := by omega
    have s3t : (n : Int).tdiv 256 = (k3 : Int) := by rw [Int.tdiv_eq_ediv_of_nonneg (by omega)]; exact s3
    have r2 : (k2 : Int) % 256 = (m2 : Int) := by omega
    have r2t : (k2 : Int).tmod 256 = (m2 : Int) := by rw [Int.tmod_eq_emod_of_nonneg (by omega)]; exact r2
    have r3 : (k3 : Int) % 256 = (m3 : Int) := by omega
    have r3t : (k3 : Int).tmod 256 = (m3 : Int) := by rw [Int.tmod_eq_emod_of_nonneg (by omega)]; exact r3
    have r4 : (n : Int) % 256 = (m4 : Int) := by omega
    have r4t : (n : Int).tmod 256 = (m4 : Int) := by rw [Int.tmod_eq_emod_of_nonneg (by omega)]; exact r4
    obtain ⟨-, -, -, t1⟩ := small_wrap (y := m1) (by omega)
    obtain ⟨-, -, -, t2⟩ := small_wrap (y := m2) (by omega)
    obtain ⟨-, -, -, t3⟩ := small_wrap (y := m3) (by omega)
    obtain ⟨-, -, -, t4⟩ := small_wrap (y := m4) (by omega)
    have HC := Lib.hid (sum4_cells m1 m2 m3 m4 (by omega) (by omega) (by omega) (by omega))
    have HS := Lib.hid (show sumB (adler b) = [UInt8.ofNat m1, UInt8.ofNat m2, UInt8.ofNat m3, UInt8.ofNat m4] by rw [← hn]; unfold sumB; rw [h1, h2, h3, h4])
    have AD := Lib.hid (fun w' (k : Kept w w') => (show Calls Try.prog 26 #[.slice p b.length c] w' fun e w'' => e = .returned (.int .u32 n) ∧ Kept w' w'' by
      rw [hn]
      exact refAdlerD_any b p c w' (fun i hi => by
        obtain ⟨kb, o, a1, a2, a3⟩ := (HB.out.keep (Nat.le_refl _) k) i hi
        exact ⟨kb, o, a1, by have := Below.size k; omega, a3⟩) (by omega)))
    have hl2 : (([120, 1] : List UInt8) ++ r).length = 2 + r.length := by simp; omega
    clear hn h1 h2 h3 h4 hk2 hk3
    go_wp2_with fail
    (with_reducible refine (AD.out _ K1.out).mono ?_)
    rintro e w2 ⟨rfl, hkk⟩
    have K2 := Lib.hid (K1.out.trans hkk)
    have hs2 := Below.size K2.out
    obtain ⟨q, cap, rfl, hqc, hqb, hqn⟩ := (OV.out.kept hkk).see
    have HQ := Lib.hid hqb
    have HN := Lib.hid hqn
    clear hqb hqn hkk
    have O1 := Lib.hid (Out.lit' w2 (B0 := w.heap.size) hs2 [120, 1] #[.int .u8 120, .int .u8 1] rfl 2 rfl (by decide))
    have KA := Lib.hid (show Kept w2 (w2.alloc (.cells #[.int .u8 120, .int .u8 1] 5)) from (Kept.refl w2).allocO _)
    have BA := Lib.hid (show ByR (w2.alloc (.cells #[.int .u8 120, .int .u8 1] 5)) (w2.alloc (.cells #[.int .u8 120, .int .u8 1] 5)).heap.size q r from fun i hi => by
      obtain ⟨kb, o, h1, h2, h3⟩ := HQ.out i hi
      exact ⟨kb, o, h1, by simp; omega, by rw [← h3]; exact KA.out.cells.1 _ _ h2⟩)
    have hsA : w.heap.size ≤ (w2.alloc (.cells #[.int .u8 120, .int .u8 1] 5)).heap.size := by simp; omega
    have SECOND := Lib.hid (fun (v5 : Value) (w5 : World) (O5 : Out w5 w.heap.size v5 ([120, 1] ++ r)) (K5 : Kept w w5) => (show Out (w5.alloc (.cells #[.int .u8 (m1 : Int), .int .u8 (m2 : Int), .int .u8 (m3 : Int), .int .u8 (m4 : Int)] 5)) w.heap.size v5 ([120, 1] ++ r) ∧ Kept w (w5.alloc (.cells #[.int .u8 (m1 : Int), .int .u8 (m2 : Int), .int .u8 (m3 : Int), .int .u8 (m4 : Int)] 5)) ∧ ByR (w5.alloc (.cells #[.int .u8 (m1 : Int), .int .u8 (m2 : Int), .int .u8 (m3 : Int), .int .u8 (m4 : Int)] 5)) (w5.alloc (.cells #[.int .u8 (m1 : Int), .int .u8 (m2 : Int), .int .u8 (m3 : Int), .int .u8 (m4 : Int)] 5)).heap.size (some ⟨w5.heap.size, 0, none⟩) [UInt8.ofNat m1, UInt8.ofNat m2, UInt8.ofNat m3, UInt8.ofNat m4] from by
      refine ⟨O5.kept ((Kept.refl w5).allocO _), K5.allocO _, ?_⟩
      have z := lit_byR' w5 [UInt8.ofNat m1, UInt8.ofNat m2, UInt8.ofNat m3, UInt8.ofNat m4]
      rw [HC.out] at z
      exact z))
    go_wp2_with (at_builtin; first | (refine wpList_app_any rfl _ _ rfl O1.out rfl q r.length cap r rfl rfl BA.out HN.out hsA (by simp; omega) ?_; intro v5 w5 ho5 hg5; have O5 := Lib.hid ho5; have G5 := Lib.hid hg5; have K5 := Lib.hid (show Kept w w5 from Below.grown (K2.out.trans KA.out) G5.out hsA (fun k hk => by have := (O1.out.lt k hk).1; omega)); have SEC := Lib.hid (SECOND.out v5 w5 O5.out K5.out); have hs7 := Below.size SEC.out.2.1; obtain ⟨g5, cap5, hv5, -⟩ := O5.out.shapeO (by rw [hl2]; omega); rw [hl2] at hv5; subst hv5; clear ho5 hg5) | (go_loud (refine wpList_app_in rfl _ _ rfl SEC.out.1 rfl (some ⟨w5.heap.size, 0, none⟩) 4 4 [UInt8.ofNat m1, UInt8.ofNat m2, UInt8.ofNat m3, UInt8.ofNat m4] rfl rfl SEC.out.2.2 (by decide) hs7 (by rw [hl2]; omega) ?_); intro g8 cap8 w8 ho8 hg8 hat8 hl8; have O8 := Lib.hid ho8; have G8 := Lib.hid hg8; clear ho8 hg8 hat8))
    go_ret2
    unfold DRawA
    rw [HZ.out, HS.out]
    exact ⟨Below.grown SEC.out.2.1 G8.out hs7 (fun k hk => (SEC.out.1.lt k hk).1), _, rfl, O8.out⟩

end Go.Proofs.Ytpplboihlndfpaa
