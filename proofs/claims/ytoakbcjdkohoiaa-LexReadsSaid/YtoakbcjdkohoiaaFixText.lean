/-
  What package fix's functions on texts answer: digitAt, grown, allDigits, thousandths, cutSign.
-/
import Derived.Test.YtoakbcjdkohoiaaFixWalks
namespace Go.Proofs.Ytoakbcjdkohoiaa
open Go.RowKit

set_option maxHeartbeats 400000 in
theorem grown_any (n c : Int) (w : World) (h0 : 0 ≤ n) (h1 : n ≤ 30000000000) (hc : 48 ≤ c) (hc' : c ≤ 57) :
    Calls Try.prog 104 #[.int .i64 n, .int .u8 c] w fun e w' => e = .returned (.int .i64 (Fx.grown n c)) ∧ w = w' := by
  by_cases h : 2147483648 < n
  · have HV := Lib.hid (show Fx.grown n c = n from if_pos h)
    go_enter Try.func104, Try.ntmps104
    go_wp2
    go_ret
    exact ⟨ret_int HV.out.symm, rfl⟩
  · have HV := Lib.hid (show Fx.grown n c = 10 * n + (c - 48) from if_neg h)
    go_enter Try.func104, Try.ntmps104
    go_wp2
    go_ret
    exact ⟨ret_int HV.out.symm, rfl⟩

set_option maxHeartbeats 400000 in
theorem digitAt_any (s : ByteArray) (i : Nat) (w : World) :
    Calls Try.prog 105 #[.string s, .int .i64 i] w fun e w' => e = .returned (.int .u8 (Fx.dAt s.data.toList i)) ∧ w = w' := by
  by_cases h : i < s.size
  · have HV := Lib.hid (show Fx.dAt s.data.toList i = (s[i].toNat : Int) by
      unfold Fx.dAt
      rw [List.getElem?_eq_getElem (by simpa using h), Option.getD_some]; rfl)
    go_enter Try.func105, Try.ntmps105
    go_wp2
    go_ret
    exact ⟨ret_int HV.out.symm, rfl⟩
  · have HV := Lib.hid (show Fx.dAt s.data.toList i = 48 by
      unfold Fx.dAt
      rw [List.getElem?_eq_none (by simp; omega), Option.getD_none]; rfl)
    go_enter Try.func105, Try.ntmps105
    go_wp2
    go_ret
    exact ⟨ret_int HV.out.symm, rfl⟩

theorem take_snoc (s : ByteArray) (k : Nat) (h : k < s.size) : s.data.toList.take (k + 1) = s.data.toList.take k ++ [s[k]] := by
  rw [List.take_succ_eq_append_getElem (by simpa using h)]; rfl

set_option maxHeartbeats 400000 in
theorem allDigits_any (s : ByteArray) (w : World) (hs : s.size ≤ 9223372036854775807) :
    Calls Try.prog 91 #[.string s] w fun e w' => e = .returned (.bool (Fx.allDig s.data.toList)) ∧ w = w' := by
  go_enter Try.func91, Try.ntmps91
  go_wp2
  go_loop [6] (fun i => ∃ k : Nat, k ≤ s.size ∧ i = .int .i64 k ∧ Hid (Fx.allDig (s.data.toList.take k) = true)) (fun i => s.size - (intOf i).toNat)
  case atStart => exact ⟨0, Nat.zero_le _, rfl, Lib.hid rfl⟩
  case round =>
    obtain ⟨k, hk, rfl, hd⟩ := hrel
    by_cases hlt : k < s.size
    · have HE := Lib.hid (take_snoc s k hlt)
      have HM := Lib.hid (show s[k] ∈ s.data.toList from List.getElem_mem (l := s.data.toList) (by simpa using hlt))
      by_cases h1 : (s[k].toNat : Int) < 48
      · have HN := Lib.hid (show Fx.isDig s[k] = false by rw [Bool.eq_false_iff, Ne, Fx.isDig_iff]; omega)
        go_wp2
        go_ret
        exact ⟨ret_bool (Fx.allDig_no HM.out HN.out).symm, rfl⟩
      · by_cases h2 : 57 < (s[k].toNat : Int)
        · have HN := Lib.hid (show Fx.isDig s[k] = false by rw [Bool.eq_false_iff, Ne, Fx.isDig_iff]; omega)
          go_wp2
          go_ret
          exact ⟨ret_bool (Fx.allDig_no HM.out HN.out).symm, rfl⟩
        · have HN := Lib.hid (show Fx.isDig s[k] = true by rw [Fx.isDig_iff]; omega)
          go_wp2
          go_round
          case rel => exact ⟨k + 1, by omega, by go_num, Lib.hid (by rw [HE.out]; exact Fx.allDig_snoc hd.out HN.out)⟩
          case measure => simp [intOf]; omega
    · go_wp2
      go_ret
      refine ⟨ret_bool ?_, rfl⟩
      have := hd.out
      rw [List.take_of_length_le (by simp; omega)] at this
      exact this.symm

set_option maxHeartbeats 400000 in
theorem thousandths_any (s p : ByteArray) (w : World) (hs : s.size ≤ 9223372036854775807) (hd : Fx.allDig s.data.toList = true) (hp : Fx.allDig p.data.toList = true) :
    Calls Try.prog 92 #[.string s, .string p] w fun e w' => e = .returned (.int .i64 (Fx.thou s.data.toList p.data.toList)) ∧ w = w' := by
  have HD := Lib.hid hd
  have HP := Lib.hid hp
  clear hd hp
  go_enter Try.func92, Try.ntmps92
  go_wp2
  go_loop [5, 10] (fun n i => ∃ k : Nat, k ≤ s.size ∧ i = .int .i64 k ∧ n = .int .i64 (Fx.grownAll 0 (s.data.toList.take k))) (fun _ i => s.size - (intOf i).toNat)
  case atStart => exact ⟨0, Nat.zero_le _, rfl, rfl⟩
  case round =>
    obtain ⟨k, hk, rfl, rfl⟩ := hrel
    obtain ⟨b0, b1⟩ := Fx.grownAll_bd (Fx.allDig_take HD.out k) (n := 0) (by omega) (by omega)
    by_cases hlt : k < s.size
    · have HE := Lib.hid (show Fx.grownAll 0 (s.data.toList.take (k + 1)) = Fx.grown (Fx.grownAll 0 (s.data.toList.take k)) s[k].toNat by
        rw [take_snoc s k hlt, Fx.grownAll_snoc])
      obtain ⟨c0, c1⟩ := Fx.isDig_iff.1 (Fx.allDig_mem HD.out (show s[k] ∈ s.data.toList from List.getElem_mem (l := s.data.toList) (by simpa using hlt)))
      generalize Fx.grownAll 0 (s.data.toList.take k) = n at *
      go_wp2_with (go_at_call 104; refine (grown_any _ _ _ (by omega) (by omega) (by omega) (by omega)).mono ?_; rintro e w' ⟨rfl, rfl⟩)
      go_round
      case rel => exact ⟨k + 1, by omega, by go_num, by rw [HE.out]⟩
      case measure => simp [intOf]; omega
    · have HE := Lib.hid (show Fx.grownAll 0 (s.data.toList.take k) = Fx.thou3 s.data.toList p.data.toList 0 by
        rw [List.take_of_length_le (by simp; omega)]; rfl)
      go_wp2
      rw [HE.out]
      clear b0 b1
      go_loop [5, 19] (fun n i => ∃ k : Nat, k ≤ 3 ∧ i = .int .i64 k ∧ n = .int .i64 (Fx.thou3 s.data.toList p.data.toList k)) (fun _ i => 3 - (intOf i).toNat)
      case atStart => exact ⟨0, by omega, rfl, rfl⟩
      case round =>
        obtain ⟨j, hj, rfl, rfl⟩ := hrel
        obtain ⟨b0, b1⟩ := Fx.thou3_bd HD.out HP.out j
        obtain ⟨d0, d1⟩ := Fx.dAt_dig HP.out j
        by_cases h3 : j < 3
        · have HF := Lib.hid (show Fx.thou3 s.data.toList p.data.toList (j + 1) = Fx.grown (Fx.thou3 s.data.toList p.data.toList j) (Fx.dAt p.data.toList j) from rfl)
          generalize Fx.thou3 s.data.toList p.data.toList j = n at *
          go_wp2_with (first | (go_at_call 104; refine (grown_any _ _ _ (by omega) (by omega) (by omega) (by omega)).mono ?_; rintro e w' ⟨rfl, rfl⟩) | (go_at_call 105; refine (digitAt_any _ _ _).mono ?_; rintro e w' ⟨rfl, rfl⟩))
          go_round
          case rel => exact ⟨j + 1, by omega, by go_num, by rw [HF.out]⟩
          case measure => simp [intOf]; omega
        · obtain rfl : j = 3 := by omega
          obtain ⟨e0, e1⟩ := Fx.dAt_dig HP.out 3
          by_cases h5 : 53 ≤ Fx.dAt p.data.toList 3
          · have HF := Lib.hid (show Fx.thou s.data.toList p.data.toList = Fx.thou3 s.data.toList p.data.toList 3 + 1 from if_pos h5)
            generalize Fx.thou3 s.data.toList p.data.toList 3 = n at *
            go_wp2_with (go_at_call 105; refine (digitAt_any _ 3 _).mono ?_; rintro e w' ⟨rfl, rfl⟩)
            go_ret
            exact ⟨ret_int HF.out.symm, rfl⟩
          · have HF := Lib.hid (show Fx.thou s.data.toList p.data.toList = Fx.thou3 s.data.toList p.data.toList 3 from if_neg h5)
            generalize Fx.thou3 s.data.toList p.data.toList 3 = n at *
            go_wp2_with (go_at_call 105; refine (digitAt_any _ 3 _).mono ?_; rintro e w' ⟨rfl, rfl⟩)
            go_ret
            exact ⟨ret_int HF.out.symm, rfl⟩

theorem ret_sign {a b : Bool} {c d : ByteArray} (h : a = b) (h' : c = d) : Ending.returned (.tuple #[.bool a, .string c]) = .returned (.tuple #[.bool b, .string d]) := by rw [h, h']

set_option maxHeartbeats 400000 in
theorem cutSign_nil (w : World) :
    Calls Try.prog 89 #[.string ⟨#[]⟩] w fun e w' => e = .returned (.tuple #[.bool false, .string ⟨#[]⟩]) ∧ ∃ k, w' = w.drewN k := by
  go_enter Try.func89, Try.ntmps89
  go_wp2
  go_ret2
  exact ⟨rfl, 0, rfl⟩

theorem behind_one (c : UInt8) (r : List UInt8) : (⟨(c :: r).toArray⟩ : ByteArray).extract 1 (r.length + 1) = ⟨r.toArray⟩ := by
  apply ByteArray.ext
  rw [ByteArray.data_extract]
  simp

set_option maxHeartbeats 400000 in
theorem cutSign_cons (c : UInt8) (r : List UInt8) (w : World) :
    Calls Try.prog 89 #[.string ⟨(c :: r).toArray⟩] w fun e w' => e = .returned (.tuple #[.bool (Fx.signOf (c :: r)), .string ⟨(Fx.behindSign (c :: r)).toArray⟩]) ∧ ∃ k, w' = w.drewN k := by
  have hz : 0 < (⟨(c :: r).toArray⟩ : ByteArray).size := Nat.succ_pos _
  have e0 : (⟨(c :: r).toArray⟩ : ByteArray)[0] = c := rfl
  have HB := Lib.hid (behind_one c r)
  by_cases hp : c.toNat = 43
  · have HS := Lib.hid (Fx.sign_plus hp r)
    have e1 : (((⟨(c :: r).toArray⟩ : ByteArray)[0].toNat : Int) == 43) = true := by rw [e0]; rw [beq_iff_eq]; omega
    have e2 : (((⟨(c :: r).toArray⟩ : ByteArray)[0].toNat : Int) == 45) = false := by rw [e0]; rw [beq_eq_false_iff_ne]; omega
    clear e0
    go_enter Try.func89, Try.ntmps89
    go_wp2
    go_quiet (fail)
    go_wp2
    go_ret2
    exact ⟨ret_sign HS.out.1.symm (by rw [HS.out.2]; exact HB.out), _, rfl⟩
  by_cases hm : c.toNat = 45
  · have HS := Lib.hid (Fx.sign_minus hm r)
    have e1 : (((⟨(c :: r).toArray⟩ : ByteArray)[0].toNat : Int) == 43) = false := by rw [e0]; rw [beq_eq_false_iff_ne]; omega
    have e2 : (((⟨(c :: r).toArray⟩ : ByteArray)[0].toNat : Int) == 45) = true := by rw [e0]; rw [beq_iff_eq]; omega
    clear e0
    go_enter Try.func89, Try.ntmps89
    go_wp2
    go_quiet (fail)
    go_wp2
    go_ret2
    exact ⟨ret_sign HS.out.1.symm (by rw [HS.out.2]; exact HB.out), _, rfl⟩
  · have HS := Lib.hid (Fx.sign_none hp hm r)
    have e1 : (((⟨(c :: r).toArray⟩ : ByteArray)[0].toNat : Int) == 43) = false := by rw [e0]; rw [beq_eq_false_iff_ne]; omega
    have e2 : (((⟨(c :: r).toArray⟩ : ByteArray)[0].toNat : Int) == 45) = false := by rw [e0]; rw [beq_eq_false_iff_ne]; omega
    clear e0
    go_enter Try.func89, Try.ntmps89
    go_wp2
    go_ret2
    exact ⟨ret_sign HS.out.1.symm (by rw [HS.out.2]), 0, rfl⟩

end Go.Proofs.Ytoakbcjdkohoiaa
