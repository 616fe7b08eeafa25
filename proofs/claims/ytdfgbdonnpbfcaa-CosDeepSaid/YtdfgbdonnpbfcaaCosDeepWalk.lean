/-
  The law CosDeep, walked.
-/
import Derived.Test.YtdfgbdonnpbfcaaCosAwake
import Derived.Test.YtdfgbdonnpbfcaaCosMath
namespace Go.Proofs.Ytdfgbdonnpbfcaa
open Go.RowKit Cx
set_option linter.unusedSimpArgs false
set_option linter.unusedVariables false

theorem and127 (n : Int) : ∃ k : Nat, bits BinOp.and IntKind.i64 n 127 = (k : Int) ∧ k ≤ 127 := by
  have hle : (BitVec.ofInt 64 n &&& BitVec.ofInt 64 127).toNat ≤ 127 := by
    rw [BitVec.toNat_and]
    exact Nat.and_le_right (n := (BitVec.ofInt 64 n).toNat) (m := 127)
  refine ⟨(BitVec.ofInt 64 n &&& BitVec.ofInt 64 127).toNat, ?_, hle⟩
  show IntKind.i64.wrap ((BitVec.ofInt 64 n &&& BitVec.ofInt 64 127).toNat : Int) = _
  exact IntWalk.i64_in _ (by omega)
theorem and65535 (n : Int) : ∃ k : Nat, bits BinOp.and IntKind.i64 n 65535 = (k : Int) ∧ k ≤ 65535 := by
  have hle : (BitVec.ofInt 64 n &&& BitVec.ofInt 64 65535).toNat ≤ 65535 := by
    rw [BitVec.toNat_and]
    exact Nat.and_le_right (n := (BitVec.ofInt 64 n).toNat) (m := 65535)
  refine ⟨(BitVec.ofInt 64 n &&& BitVec.ofInt 64 65535).toNat, ?_, hle⟩
  show IntKind.i64.wrap ((BitVec.ofInt 64 n &&& BitVec.ofInt 64 65535).toNat : Int) = _
  exact IntWalk.i64_in _ (by omega)
theorem cat_arr (j : Nat) : (⟨#[91]⟩ ++ ⟨(nest false j).toArray⟩ ++ ⟨#[93]⟩ : ByteArray) = ⟨(nest false (j + 1)).toArray⟩ := by
  apply ByteArray.ext
  simp [nest, opn, cls]
theorem cat_dict (j : Nat) : (⟨#[60, 60, 47, 65, 32]⟩ ++ ⟨(nest true j).toArray⟩ ++ ⟨#[62, 62]⟩ : ByteArray) = ⟨(nest true (j + 1)).toArray⟩ := by
  apply ByteArray.ext
  simp [nest, opn, cls]
theorem cut_take (l : List UInt8) (c : Nat) (h : c ≤ l.length) : (⟨l.toArray⟩ : ByteArray).extract 0 c = ⟨(l.take c).toArray⟩ := by
  apply ByteArray.ext
  simp

theorem parseDeep_any (d : Bool) (j : Nat) (hj : 64 < j) (hj' : j ≤ 127) (s : ByteArray) (hs : s = ⟨(nest d j).toArray⟩) (w : World) (hm : HasMax w) : Calls Try.prog 14 #[.string s, .int .i64 0] w fun e w' =>
    ∃ p c q d, e = .returned (.tuple #[.agg #[.int .i64 0, .int .i64 0, .int .i64 0, .string ⟨#[]⟩, .slice p 0 c, .slice q 0 d], .int .i64 0, .int .i64 5]) ∧ Kept w w' := by
  have hl : s.data.toList = nest d j := by rw [hs]
  have hz : s.size ≤ 4294967295 := by rw [hs]; show (nest d j).toArray.size ≤ _; rw [List.size_toArray, nest_len]; split <;> omega
  exact (cosParse_any settled_any s 0 w hz hm _ (show ((5, nul, 0) : Int × Ob × Nat) = _ by rw [hl, parse_deep d j hj])).mono fun _ _ ⟨⟨p, c, q, d⟩, he, hk, _⟩ => ⟨p, c, q, d, he, hk⟩
theorem parseNest_any (d : Bool) (j : Nat) (hj : j ≤ 64) (s : ByteArray) (hs : s = ⟨(nest d j).toArray⟩) (w : World) (hm : HasMax w) : Calls Try.prog 14 #[.string s, .int .i64 0] w fun e w' =>
    ∃ h, e = .returned (.tuple #[objV (nestO d j) h, .int .i64 s.size, .int .i64 0]) ∧ Kept w w' ∧ Lies (Cel (fun b => w.heap.size ≤ b) w') (nestO d j) h := by
  have hl : s.data.toList = nest d j := by rw [hs]
  have hsz : s.size = (nest d j).length := by rw [hs]; show (nest d j).toArray.size = _; rw [List.size_toArray]
  have hz : s.size ≤ 4294967295 := by rw [hsz, nest_len]; split <;> omega
  exact (cosParse_any settled_any s 0 w hz hm _ (show ((0, nestO d j, s.size) : Int × Ob × Nat) = _ by rw [hl, parse_nest d j hj, hsz])).mono fun _ _ ⟨h, he, hk, hl⟩ => ⟨h, he, hk, hl⟩
theorem parseCut_any (d : Bool) (j c : Nat) (hj : j ≤ 64) (s : ByteArray) (hs : s = ⟨(nest d j).toArray⟩) (hc : c < s.size) (w : World) (hm : HasMax w) : Calls Try.prog 14 #[.string (s.extract 0 c), .int .i64 0] w fun e w' =>
    ∃ k n f t p l c q m d to er, e = .returned (.tuple #[.agg #[.int .i64 k, .int .i64 n, .int .i64 f, .string t, .slice p l c, .slice q m d], .int .i64 to, .int .i64 er]) ∧ (er != 0) = true ∧ Kept w w' := by
  have hsz : s.size = (nest d j).length := by rw [hs]; show (nest d j).toArray.size = _; rw [List.size_toArray]
  have he : s.extract 0 c = ⟨((nest d j).take c).toArray⟩ := by rw [hs]; exact cut_take _ _ (by omega)
  have hl : (s.extract 0 c).data.toList = (nest d j).take c := by rw [he]
  have hz : (s.extract 0 c).size ≤ 4294967295 := by
    rw [he]; show ((nest d j).take c).toArray.size ≤ _; rw [List.size_toArray, List.length_take, nest_len]; split <;> omega
  have hp := parse_cut d j c hj (by omega)
  refine (cosParse_any settled_any (s.extract 0 c) 0 w hz hm _ rfl).mono fun _ _ ⟨h, he, hk, _⟩ => ?_
  rw [hl] at he
  exact ⟨_, _, _, _, _, _, _, _, _, _, _, _, he, by rw [bne_iff_ne]; exact hp, hk⟩
theorem nestO_f (d : Bool) (j : Nat) (h : j = 0) : (nestO d j).f = 7000 := by subst h; rfl

set_option maxRecDepth 100000 in
set_option maxHeartbeats 4000000 in
theorem cosDeep_any (n : Int) (d : Bool) (cut : Int) (w : World) (hm : HasMax w) : Calls Try.prog 5 #[.int .i64 n, .bool d, .int .i64 cut] w fun e w' => e = .returned (.bool true) ∧ Kept w w' := by
  have HM := Lib.hid hm
  clear hm
  obtain ⟨K, hK, hK127⟩ := and127 n
  have HC := Lib.hid (and65535 cut)
  cases d
  · go_enter Try.func5, Try.ntmps5
    go_wp2_with fail
    (with_reducible refine (cosAwake_any _ HM.out).mono ?_)
    rintro e w1 ⟨rfl, hk1⟩
    have K1 := Lib.hid hk1
    have HM1 := Lib.hid (HM.out.kept hk1)
    clear hk1
    go_wp2_with fail
    go_loopg [9, 10] K (fun m v i wr => ∃ (j : Nat), m = K - j ∧ j ≤ K ∧ wr = w1 ∧ i = .int .i64 j ∧ v = .string ⟨(nest false j).toArray⟩)
    case atStart => exact ⟨0, by omega, Nat.zero_le _, rfl, rfl, rfl⟩
    case round =>
      obtain ⟨j, hm, hj, rfl, rfl, rfl⟩ := hrel
      by_cases hlt : j < K
      · have hl : (nest false j).length ≤ 1000 := by rw [nest_len]; simp; omega
        have HW := Lib.hid (cat_arr j)
        go_wp2_with fail
        go_roundg (K - (j + 1))
        case measure => omega
        case rel => exact ⟨j + 1, rfl, by omega, rfl, by go_num, by rw [← HW.out]⟩
      · obtain rfl : j = K := by omega
        obtain ⟨s, hs⟩ : ∃ s : ByteArray, s = ⟨(nest false j).toArray⟩ := ⟨_, rfl⟩
        rw [← hs]
        have hsz : s.size = 1 + j * 2 := by rw [hs]; show (nest false j).toArray.size = _; rw [List.size_toArray, nest_len]; rfl
        have hsz0 : 1 ≤ s.size := by omega
        have hsz1 : s.size ≤ 1000 := by omega
        clear hsz
        by_cases hdeep : 64 < j
        · have PD := Lib.hid (parseDeep_any false j hdeep (by omega) s hs)
          clear hs
          go_wp2_with fail
          (with_reducible refine (PD.out _ HM1.out).mono ?_)
          rintro e w2 ⟨p, c, q, e', rfl, hk2⟩
          have K2 := Lib.hid (K1.out.trans hk2)
          clear hk2
          go_wp2_with fail
          go_ret
          exact ⟨rfl, by
            have K0 := K2.out
            repeat (with_reducible first | exact K0 | refine Kept.alloc ?_ _ _)⟩
        · have hj64 : j ≤ 64 := by omega
          have PN := Lib.hid (parseNest_any false j hj64 s hs)
          have PC := Lib.hid (fun c hc w' hm' => parseCut_any false j c hj64 s hs hc w' hm')
          obtain ⟨O, hO⟩ : ∃ O, O = nestO false j := ⟨_, rfl⟩
          have HCO := Lib.hid (show O.count = j + 1 by rw [hO, nestO_count])
          have HFO := Lib.hid (show j = 0 → O.f = 7000 by rw [hO]; exact nestO_f false j)
          rw [← hO] at PN
          unfold objV at PN
          clear hs hO hdeep
          go_wp2_with fail
          (with_reducible refine (PN.out _ HM1.out).mono ?_)
          rintro e w2 ⟨⟨p, c, q, e'⟩, rfl, hk2, hl2⟩
          have K2 := Lib.hid (K1.out.trans hk2)
          have HM2 := Lib.hid (HM1.out.kept hk2)
          have CN := Lib.hid (Count_any _ _ O ⟨p, c, q, e'⟩ _ (Nat.le_refl _) (hl2.kept ((Kept.refl w2).alloc #[.int .i64 O.k, .int .i64 O.n, .int .i64 O.f, .string O.s, .slice p O.l.length c, .slice q O.d.length e'] 26)) (by rw [HCO.out]; omega))
          rw [HCO.out] at CN
          unfold objV at CN
          simp only [] at CN ⊢
          have hn1 : ((s.size : Int) != (s.size : Int)) = false := bne_self_eq_false _
          have hn2 : ((((j + 1 : Nat) : Int)) != (j : Int) + 1) = false := by simp
          have HB := Lib.hid (Blk.fresh w2 #[.int .i64 O.k, .int .i64 O.n, .int .i64 O.f, .string O.s, .slice p O.l.length c, .slice q O.d.length e'] 26)
          have K3 := Lib.hid (K2.out.alloc #[.int .i64 O.k, .int .i64 O.n, .int .i64 O.f, .string O.s, .slice p O.l.length c, .slice q O.d.length e'] 26)
          clear hk2 hl2
          go_wp2_with fail
          (with_reducible refine CN.out.mono ?_)
          rintro e w3 ⟨rfl, hk3⟩
          have K4 := Lib.hid (K3.out.trans hk3)
          have HM4 := Lib.hid (HM.out.kept K4.out)
          obtain ⟨t0, t1, t2, t3, t4, t5⟩ := (HB.out.kept hk3).cells6
          clear hk3
          by_cases h0 : j = 0
          · have hf := HFO.out h0
            subst h0
            go_wp2_with fail
            go_ret
            exact ⟨rfl, K4.out⟩
          · obtain ⟨C, hC, hC1⟩ := HC.out
            have PCC := Lib.hid (PC.out (C % s.size) (Nat.mod_lt _ (by omega)))
            have hcb0 : (0 : Int) ≤ (C : Int) % (s.size : Int) := Int.emod_nonneg _ (by omega)
            have hcb1 : (C : Int) % (s.size : Int) ≤ (s.size : Int) := Int.le_of_lt (Int.emod_lt_of_pos _ (by omega))
            go_wp2_with fail
            (with_reducible refine (PCC.out _ HM4.out).mono ?_)
            rintro e w5 ⟨k5, n5, f5, t5, p5, l5, c5, q5, m5, d5, to5, er5, rfl, hne, hk5⟩
            have K5 := Lib.hid (K4.out.trans hk5)
            clear hk5
            go_wp2_with fail
            go_ret
            exact ⟨rfl, by
              have K0 := K5.out
              repeat (with_reducible first | exact K0 | refine Kept.alloc ?_ _ _)⟩
  · go_enter Try.func5, Try.ntmps5
    go_wp2_with fail
    (with_reducible refine (cosAwake_any _ HM.out).mono ?_)
    rintro e w1 ⟨rfl, hk1⟩
    have K1 := Lib.hid hk1
    have HM1 := Lib.hid (HM.out.kept hk1)
    clear hk1
    go_wp2_with fail
    go_loopg [9, 10] K (fun m v i wr => ∃ (j : Nat), m = K - j ∧ j ≤ K ∧ wr = w1 ∧ i = .int .i64 j ∧ v = .string ⟨(nest true j).toArray⟩)
    case atStart => exact ⟨0, by omega, Nat.zero_le _, rfl, rfl, rfl⟩
    case round =>
      obtain ⟨j, hm, hj, rfl, rfl, rfl⟩ := hrel
      by_cases hlt : j < K
      · have hl : (nest true j).length ≤ 1000 := by rw [nest_len]; simp; omega
        have HW := Lib.hid (cat_dict j)
        go_wp2_with fail
        go_roundg (K - (j + 1))
        case measure => omega
        case rel => exact ⟨j + 1, rfl, by omega, rfl, by go_num, by rw [← HW.out]⟩
      · obtain rfl : j = K := by omega
        obtain ⟨s, hs⟩ : ∃ s : ByteArray, s = ⟨(nest true j).toArray⟩ := ⟨_, rfl⟩
        rw [← hs]
        have hsz : s.size = 1 + j * 7 := by rw [hs]; show (nest true j).toArray.size = _; rw [List.size_toArray, nest_len]; rfl
        have hsz0 : 1 ≤ s.size := by omega
        have hsz1 : s.size ≤ 1000 := by omega
        clear hsz
        by_cases hdeep : 64 < j
        · have PD := Lib.hid (parseDeep_any true j hdeep (by omega) s hs)
          clear hs
          go_wp2_with fail
          (with_reducible refine (PD.out _ HM1.out).mono ?_)
          rintro e w2 ⟨p, c, q, e', rfl, hk2⟩
          have K2 := Lib.hid (K1.out.trans hk2)
          clear hk2
          go_wp2_with fail
          go_ret
          exact ⟨rfl, by
            have K0 := K2.out
            repeat (with_reducible first | exact K0 | refine Kept.alloc ?_ _ _)⟩
        · have hj64 : j ≤ 64 := by omega
          have PN := Lib.hid (parseNest_any true j hj64 s hs)
          have PC := Lib.hid (fun c hc w' hm' => parseCut_any true j c hj64 s hs hc w' hm')
          obtain ⟨O, hO⟩ : ∃ O, O = nestO true j := ⟨_, rfl⟩
          have HCO := Lib.hid (show O.count = j + 1 by rw [hO, nestO_count])
          have HFO := Lib.hid (show j = 0 → O.f = 7000 by rw [hO]; exact nestO_f true j)
          rw [← hO] at PN
          unfold objV at PN
          clear hs hO hdeep
          go_wp2_with fail
          (with_reducible refine (PN.out _ HM1.out).mono ?_)
          rintro e w2 ⟨⟨p, c, q, e'⟩, rfl, hk2, hl2⟩
          have K2 := Lib.hid (K1.out.trans hk2)
          have HM2 := Lib.hid (HM1.out.kept hk2)
          have CN := Lib.hid (Count_any _ _ O ⟨p, c, q, e'⟩ _ (Nat.le_refl _) (hl2.kept ((Kept.refl w2).alloc #[.int .i64 O.k, .int .i64 O.n, .int .i64 O.f, .string O.s, .slice p O.l.length c, .slice q O.d.length e'] 26)) (by rw [HCO.out]; omega))
          rw [HCO.out] at CN
          unfold objV at CN
          simp only [] at CN ⊢
          have hn1 : ((s.size : Int) != (s.size : Int)) = false := bne_self_eq_false _
          have hn2 : ((((j + 1 : Nat) : Int)) != (j : Int) + 1) = false := by simp
          have HB := Lib.hid (Blk.fresh w2 #[.int .i64 O.k, .int .i64 O.n, .int .i64 O.f, .string O.s, .slice p O.l.length c, .slice q O.d.length e'] 26)
          have K3 := Lib.hid (K2.out.alloc #[.int .i64 O.k, .int .i64 O.n, .int .i64 O.f, .string O.s, .slice p O.l.length c, .slice q O.d.length e'] 26)
          clear hk2 hl2
          go_wp2_with fail
          (with_reducible refine CN.out.mono ?_)
          rintro e w3 ⟨rfl, hk3⟩
          have K4 := Lib.hid (K3.out.trans hk3)
          have HM4 := Lib.hid (HM.out.kept K4.out)
          obtain ⟨t0, t1, t2, t3, t4, t5⟩ := (HB.out.kept hk3).cells6
          clear hk3
          by_cases h0 : j = 0
          · have hf := HFO.out h0
            subst h0
            go_wp2_with fail
            go_ret
            exact ⟨rfl, K4.out⟩
          · obtain ⟨C, hC, hC1⟩ := HC.out
            have PCC := Lib.hid (PC.out (C % s.size) (Nat.mod_lt _ (by omega)))
            have hcb0 : (0 : Int) ≤ (C : Int) % (s.size : Int) := Int.emod_nonneg _ (by omega)
            have hcb1 : (C : Int) % (s.size : Int) ≤ (s.size : Int) := Int.le_of_lt (Int.emod_lt_of_pos _ (by omega))
            go_wp2_with fail
            (with_reducible refine (PCC.out _ HM4.out).mono ?_)
            rintro e w5 ⟨k5, n5, f5, t5, p5, l5, c5, q5, m5, d5, to5, er5, rfl, hne, hk5⟩
            have K5 := Lib.hid (K4.out.trans hk5)
            clear hk5
            go_wp2_with fail
            go_ret
            exact ⟨rfl, by
              have K0 := K5.out
              repeat (with_reducible first | exact K0 | refine Kept.alloc ?_ _ _)⟩

end Go.Proofs.Ytdfgbdonnpbfcaa
