/-
  The law WriteLimits answers true.
-/
import Derived.Test.YtdfgbdonnpbfcaaDoorWriteLimRow
namespace Go.Proofs.YtdfgbdonnpbfcaaDoor
open Go.RowKit Cx
set_option linter.unusedSimpArgs false
set_option linter.unusedVariables false

theorem and127 (n : Int) : ∃ k : Nat, bits BinOp.and IntKind.i64 n 127 = (k : Int) ∧ k ≤ 127 := by
  have hle : (BitVec.ofInt 64 n &&& BitVec.ofInt 64 127).toNat ≤ 127 := by
    rw [BitVec.toNat_and]
    exact Nat.and_le_right (n := (BitVec.ofInt 64 n).toNat) (m := 127)
  refine ⟨(BitVec.ofInt 64 n &&& BitVec.ofInt 64 127).toNat, ?_, hle⟩
  show IntKind.i64.wrap ((BitVec.ofInt 64 n &&& BitVec.ofInt 64 127).toNat : Int) = _
  exact IntWalk.i64_in _ (by omega)
theorem and2047 (n : Int) : ∃ k : Nat, bits BinOp.and IntKind.i64 n 2047 = (k : Int) ∧ k ≤ 2047 := by
  have hle : (BitVec.ofInt 64 n &&& BitVec.ofInt 64 2047).toNat ≤ 2047 := by
    rw [BitVec.toNat_and]
    exact Nat.and_le_right (n := (BitVec.ofInt 64 n).toNat) (m := 2047)
  refine ⟨(BitVec.ofInt 64 n &&& BitVec.ofInt 64 2047).toNat, ?_, hle⟩
  show IntKind.i64.wrap ((BitVec.ofInt 64 n &&& BitVec.ofInt 64 2047).toNat : Int) = _
  exact IntWalk.i64_in _ (by omega)

set_option maxRecDepth 100000 in
set_option maxHeartbeats 4000000 in
theorem WriteLimits_walk (n m : Int) (w : World) (hf : Fine w) :
    Calls Tryd.prog 6 #[.int .i64 n, .int .i64 m] w fun e w' => e = .returned (.bool true) ∧ Kept w w' := by
  have HF := Lib.hid hf
  have AW := Lib.hid (awake5_any w hf)
  obtain ⟨K, hK, hK127⟩ := and127 n
  obtain ⟨J, hJ, hJ2⟩ := and2047 m
  clear hf
  go_enter Tryd.func6, Tryd.ntmps6
  go_wp2_with fail
  (with_reducible refine AW.out.mono ?_)
  rintro e w1 ⟨rfl, k1⟩
  obtain ⟨a, ha⟩ : ∃ a, a = w1.heap.size := ⟨_, rfl⟩
  have HI0 := Lib.hid (In.fresh (In.kept (In.start w) k1) #[.int .i64 1, .int .i64 1, .int .i64 0, .string ⟨#[]⟩, .slice none 0 0, .slice none 0 0] 26)
  have haw := Below.size k1
  rw [← ha] at haw HI0
  clear k1
  go_wp2_with fail
  rw [← ha]
  go_loopg [8] K (fun mm i wr => ∃ (j : Nat) (kk nn : Int) (ll c : Nat) (p : Option Addr), mm = K - j ∧ j ≤ K ∧ i = .int .i64 j ∧ In w [(a, #[.int .i64 kk, .int .i64 nn, .int .i64 0, .string ⟨#[]⟩, .slice p ll c, .slice none 0 0], 26)] wr ∧ Lies (Cel (fun b => b ≠ a) wr) (chain j) ⟨p, c, none, 0⟩ ∧ Hid (kk = (chain j).k ∧ nn = (chain j).n ∧ ll = (chain j).l.length))
  case atStart => exact ⟨0, 1, 1, 0, 0, none, rfl, Nat.zero_le _, rfl, HI0.out, Lies.flat _ 1 1 0 ⟨#[]⟩ _ (Nat.zero_le _), Lib.hid ⟨rfl, rfl, rfl⟩⟩
  case round =>
    obtain ⟨j, kk, nn, ll, c, p, hm, hj, rfl, hI, hL, HH⟩ := hrel
    have HI := Lib.hid hI
    have HL := Lib.hid hL
    obtain ⟨t0, t1, t2, t3, t4, t5⟩ := (HI.out.mem List.mem_cons_self).cells6
    clear hI hL HI0 ha
    by_cases hlt : j < K
    · have hlta := (HI.out.mem List.mem_cons_self).lt
      have hne : wr.heap.size ≠ a := by omega
      have tf := (HI.out.mem List.mem_cons_self).free
      have IZ := Lib.hid (In.alloc (In.set6 (In.tail HI.out) (HI.out.mem List.mem_cons_self) haw (fun x hx => absurd hx List.not_mem_nil) (.int .i64 5) (.int .i64 0) (.int .i64 0) (.string ⟨#[]⟩) (.slice (some ⟨wr.heap.size, 0, none⟩) 1 1) (.slice none 0 0)) (.cells #[.int .i64 kk, .int .i64 nn, .int .i64 0, .string ⟨#[]⟩, .slice p ll c, .slice none 0 0] 26 (0, 0)))
      have LS := Lib.hid (((((((HL.out.setW (k := a) (of := 0) (fun b h => h) (.int .i64 5)).setW (k := a) (of := 1) (fun b h => h) (.int .i64 0)).setW (k := a) (of := 2) (fun b h => h) (.int .i64 0)).setW (k := a) (of := 3) (fun b h => h) (.string ⟨#[]⟩)).setW (k := a) (of := 4) (fun b h => h) (.slice (some ⟨wr.heap.size, 0, none⟩) 1 1)).setW (k := a) (of := 5) (fun b h => h) (.slice none 0 0)))
      have LX := Lib.hid (chain_lies j wr.heap.size kk nn ll c p _ (Blk.fresh' #[.int .i64 kk, .int .i64 nn, .int .i64 0, .string ⟨#[]⟩, .slice p ll c, .slice none 0 0] 26 (by simp)) hne HH.out.1 HH.out.2.1 HH.out.2.2 (LS.out.kept ((Kept.refl _).alloc _ _)))
      go_wp2_with fail
      go_roundg (K - (j + 1))
      case measure => omega
      case rel =>
        refine ⟨j + 1, 5, 0, 1, 1, some ⟨wr.heap.size, 0, none⟩, rfl, by omega, by go_num, ?_, ?_, Lib.hid ⟨rfl, rfl, rfl⟩⟩
        · exact IZ.out
        · exact LX.out
    · obtain rfl : j = K := by omega
      clear hlt
      have CO := Lib.hid (chainObject j kk nn ll c p wr hK127 HH.out.1 HH.out.2.1 HH.out.2.2 HL.out (HF.out.kept (In.kW HI.out)))
      go_wp2_with fail
      (with_reducible refine CO.out.mono ?_)
      rintro e w2 ⟨S, E, rfl, hk2, hE, hS⟩
      have HI2 := Lib.hid (In.kept HI.out hk2)
      have HE := Lib.hid hE
      have HSS := Lib.hid hS
      clear hk2 t0 t1 t2 t3 t4 t5 hE hS
      obtain ⟨i0, hi, hz0, hz1, hz2⟩ := info_parts (P := Tryd.prog) (e := 26) (z := .agg z6) (size := 6) (bytes := 88) (by kernel_rfl)
      go_wp2_with (at_make; refine wpList_make_full _ rfl _ _ 23 rfl w2.heap.size 26 i0 (.agg z6) 6 Tryd.underlying23 hi hz0 hz1 .i64 .i64 _ _ J rfl rfl rfl rfl (by rw [hz2]; omega) (by unfold maxLen; omega) (Nat.le_refl _) ?_; intro w3 hown hgrow)
      have K3 := Lib.hid (show Kept w w3 from Below.grown (In.kW HI2.out) hgrow (Below.size (In.kW HI2.out)) (fun k h => by cases h))
      have NO := Lib.hid (nullsObject J (some ⟨w2.heap.size, 0, none⟩) J w3 hJ2 (nulls_lies J _ _ w3 hJ2 hown) (HF.out.kept K3.out))
      clear hown hgrow hi hz0 hz1 hz2
      go_wp2_with fail
      (with_reducible refine NO.out.mono ?_)
      rintro e w4 ⟨T, F, rfl, hk4, hF, hT⟩
      have K4 := Lib.hid (K3.out.trans hk4)
      clear hk4
      by_cases h64 : j ≤ 64
      · obtain rfl : E = 0 := by rw [HE.out, if_pos h64]
        have hs := HSS.out h64
        have q1 : (j : Int) ≤ 64 := by omega
        have q2 : ¬ ((64 : Int) < (j : Int)) := by omega
        have q3 : ((S.size : Int) == 2 * (j : Int) + 4) = true := by rw [beq_iff_eq]; omega
        have q4 : IntKind.i64.wrap (2 * (j : Int)) = 2 * (j : Int) := by rw [IntKind.wrap_i64]; omega
        by_cases hJ3 : 1024 < J
        · obtain rfl : F = 6 := by rw [hF, if_pos hJ3]
          have r1 : ¬ ((J : Int) ≤ 1024) := by omega
          have r2 : (1024 : Int) < (J : Int) := by omega
          clear hF hT hs HE HSS
          go_wp2_with fail
          go_ret
          exact ⟨by simp_all, K4.out⟩
        · obtain rfl : F = 0 := by rw [hF, if_neg hJ3]
          have r1 : (J : Int) ≤ 1024 := by omega
          have r2 : ¬ ((1024 : Int) < (J : Int)) := by omega
          have r4 : IntKind.i64.wrap (5 * (J : Int)) = 5 * (J : Int) := by rw [IntKind.wrap_i64]; omega
          by_cases h0 : J = 0
          · have r5 : ((J : Int) == 0) = true := by rw [beq_iff_eq]; omega
            clear hF hT hs HE HSS
            go_wp2_with fail
            go_ret
            exact ⟨by simp_all, K4.out⟩
          · have r5 : ((J : Int) == 0) = false := by rw [beq_eq_false_iff_ne]; omega
            have ht := hT (by omega) h0
            have r3 : ((T.size : Int) == 5 * (J : Int) + 1) = true := by rw [beq_iff_eq]; omega
            clear hF hT hs HE HSS ht
            go_wp2_with fail
            go_ret
            exact ⟨by simp_all, K4.out⟩
      · obtain rfl : E = 5 := by rw [HE.out, if_neg h64]
        have q1 : ¬ ((j : Int) ≤ 64) := by omega
        have q2 : (64 : Int) < (j : Int) := by omega
        by_cases hJ3 : 1024 < J
        · obtain rfl : F = 6 := by rw [hF, if_pos hJ3]
          have r1 : ¬ ((J : Int) ≤ 1024) := by omega
          have r2 : (1024 : Int) < (J : Int) := by omega
          clear hF hT HE HSS
          go_wp2_with fail
          go_ret
          exact ⟨by simp_all, K4.out⟩
        · obtain rfl : F = 0 := by rw [hF, if_neg hJ3]
          have r1 : (J : Int) ≤ 1024 := by omega
          have r2 : ¬ ((1024 : Int) < (J : Int)) := by omega
          have r4 : IntKind.i64.wrap (5 * (J : Int)) = 5 * (J : Int) := by rw [IntKind.wrap_i64]; omega
          by_cases h0 : J = 0
          · have r5 : ((J : Int) == 0) = true := by rw [beq_iff_eq]; omega
            clear hF hT HE HSS
            go_wp2_with fail
            go_ret
            exact ⟨by simp_all, K4.out⟩
          · have r5 : ((J : Int) == 0) = false := by rw [beq_eq_false_iff_ne]; omega
            have ht := hT (by omega) h0
            have r3 : ((T.size : Int) == 5 * (J : Int) + 1) = true := by rw [beq_iff_eq]; omega
            clear hF hT HE HSS ht
            go_wp2_with fail
            go_ret
            exact ⟨by simp_all, K4.out⟩

end Go.Proofs.YtdfgbdonnpbfcaaDoor
