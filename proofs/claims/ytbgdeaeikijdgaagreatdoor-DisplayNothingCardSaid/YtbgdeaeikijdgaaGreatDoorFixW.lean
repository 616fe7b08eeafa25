/-
  What package fix's reckoning functions answer: Sane, checked, magnitude, rounded.
  What package fix's functions on texts answer: digitAt, grown, allDigits, thousandths, cutSign.
  What package fix's Parse answers, at every text.
  What package fix's Add, Sub, Mul, Div and Int answer, at all numbers.
-/
import Derived.Test.YtbgdeaeikijdgaaGreatDoorXBase
import Derived.Test.YtbgdeaeikijdgaaGreatDoorFixMs
import Derived.WalkKit
import Derived.WalkSpells
import Derived.WalkLawsBesides
import Derived.BigQuiet
import Derived.Deep.QuietTactic
import Derived.Lib.Hide
import Derived.Test.YtbgdeaeikijdgaaGreatDoorShelf
namespace Go.Proofs.YtbgdeaeikijdgaaGreatDoor
open Go.RowKit

theorem ret_int {k : IntKind} {a b : Int} (h : a = b) : Ending.returned (.int k a) = .returned (.int k b) := by rw [h]
theorem ret_bool {a b : Bool} (h : a = b) : Ending.returned (.bool a) = .returned (.bool b) := by rw [h]
theorem ret_ints {a b c d : Int} (h : a = b) (h' : c = d) : Ending.returned (.tuple #[.int .i64 a, .int .i64 c]) = .returned (.tuple #[.int .i64 b, .int .i64 d]) := by rw [h, h']

set_option maxHeartbeats 400000 in
theorem magnitude_any (x : Int) (w : World) (h0 : -9223372036854775807 ≤ x) (h1 : x ≤ 9223372036854775807) :
    Calls Tryz.prog 214 #[.int .i64 x] w fun e w' => e = .returned (.int .i64 (Fx.mag x)) ∧ w = w' := by
  by_cases h : x < 0
  · have HM := Lib.hid (show Fx.mag x = -x from if_pos h)
    go_enter Tryz.func214, Tryz.ntmps214
    go_wp2
    go_ret
    exact ⟨ret_int HM.out.symm, rfl⟩
  · have HM := Lib.hid (show Fx.mag x = x from if_neg h)
    go_enter Tryz.func214, Tryz.ntmps214
    go_wp2
    go_ret
    exact ⟨ret_int HM.out.symm, rfl⟩

set_option maxHeartbeats 400000 in
/-- Sane, at numbers that lie in memory one behind the other. -/
theorem sane_any (zs : List Int) (b : Nat) (w : World) (hl : zs.length ≤ 9223372036854775807) (hc : ∀ i, i < zs.length → w.cell? ⟨b, i, none⟩ = some (.int .i64 (zs.getD i 0))) :
    Calls Tryz.prog 88 #[.slice (some ⟨b, 0, none⟩) zs.length zs.length] w fun e w' => e = .returned (.bool (zs.all Fx.saneB)) ∧ w = w' := by
  have HC := Lib.hid hc
  clear hc
  go_enter Tryz.func88, Tryz.ntmps88
  go_wp2
  go_loop [7] (fun i => ∃ k : Nat, k ≤ zs.length ∧ i = .int .i64 k ∧ Hid ((zs.take k).all Fx.saneB = true)) (fun i => zs.length - (intOf i).toNat)
  case atStart => exact ⟨0, Nat.zero_le _, rfl, Lib.hid rfl⟩
  case round =>
    obtain ⟨k, hk, rfl, hs⟩ := hrel
    by_cases hlt : k < zs.length
    · have hcell := HC.out k hlt
      have HE := Lib.hid (show zs.take (k + 1) = zs.take k ++ [zs.getD k 0] by
        rw [List.take_succ_eq_append_getElem hlt, Fx.getD_at _ _ hlt])
      have HM := Lib.hid (show zs.getD k 0 ∈ zs by rw [Fx.getD_at _ _ hlt]; exact List.getElem_mem hlt)
      generalize zs.getD k 0 = x at *
      by_cases h1 : x < -2147483648
      · go_wp2
        go_ret
        refine ⟨ret_bool ?_, rfl⟩
        symm
        rw [List.all_eq_false]
        exact ⟨x, HM.out, by rw [Fx.sane_iff]; omega⟩
      · by_cases h2 : 2147483648 < x
        · go_wp2
          go_ret
          refine ⟨ret_bool ?_, rfl⟩
          symm
          rw [List.all_eq_false]
          exact ⟨x, HM.out, by rw [Fx.sane_iff]; omega⟩
        · go_wp2
          go_round
          case rel => exact ⟨k + 1, by omega, by go_num, Lib.hid (by rw [HE.out, List.all_append, hs.out]; simp [Fx.sane_iff]; omega)⟩
          case measure => simp [intOf]; omega
    · go_wp2
      go_ret
      refine ⟨ret_bool ?_, rfl⟩
      have := hs.out
      rw [List.take_of_length_le (by omega)] at this
      exact this.symm

theorem sane_1 (x : Int) (b : Nat) (w : World) (hc : w.cell? ⟨b, 0, none⟩ = some (.int .i64 x)) :
    Calls Tryz.prog 88 #[.slice (some ⟨b, 0, none⟩) 1 1] w fun e w' => e = .returned (.bool (Fx.saneB x)) ∧ w = w' := by
  have h := sane_any [x] b w (by simp) (by intro i hi; obtain rfl : i = 0 := by simpa using hi
                                           exact hc)
  simpa using h
theorem sane_2 (x y : Int) (b : Nat) (w : World) (hc : w.cell? ⟨b, 0, none⟩ = some (.int .i64 x)) (hd : w.cell? ⟨b, 1, none⟩ = some (.int .i64 y)) :
    Calls Tryz.prog 88 #[.slice (some ⟨b, 0, none⟩) 2 2] w fun e w' => e = .returned (.bool (Fx.saneB x && Fx.saneB y)) ∧ w = w' := by
  have h := sane_any [x, y] b w (by simp) (by
    intro i hi
    have : i = 0 ∨ i = 1 := by simp at hi; omega
    rcases this with rfl | rfl
    · exact hc
    · exact hd)
  simpa using h

theorem sane_new1 (x : Int) (w : World) :
    Calls Tryz.prog 88 #[.slice (some ⟨w.heap.size, 0, none⟩) 1 1] (w.alloc (.cells #[.int .i64 x] 26)) fun e w' => e = .returned (.bool (Fx.saneB x)) ∧ w.alloc (.cells #[.int .i64 x] 26) = w' :=
  sane_1 x _ _ (by simp [go_sem])
theorem sane_new2 (x y : Int) (w : World) :
    Calls Tryz.prog 88 #[.slice (some ⟨w.heap.size, 0, none⟩) 2 2] (w.alloc (.cells #[.int .i64 x, .int .i64 y] 26)) fun e w' => e = .returned (.bool (Fx.saneB x && Fx.saneB y)) ∧ w.alloc (.cells #[.int .i64 x, .int .i64 y] 26) = w' :=
  sane_2 x y _ _ (by simp [go_sem]) (by simp [go_sem])

set_option maxHeartbeats 400000 in
theorem checked_any (x : Int) (w : World) :
    Calls Tryz.prog 89 #[.int .i64 x] w fun e w' => e = .returned (.tuple #[.int .i64 (Fx.chkV x), .int .i64 (Fx.chkE x)]) ∧ Kept w w' := by
  by_cases h : Fx.saneB x = true
  · have HV := Lib.hid (show Fx.chkV x = x from if_pos h)
    have HE := Lib.hid (show Fx.chkE x = 0 from if_pos h)
    go_enter Tryz.func89, Tryz.ntmps89
    go_wp2_with (go_at_call 88; refine (sane_new1 x _).mono ?_; rintro e w' ⟨rfl, rfl⟩)
    go_ret2
    exact ⟨ret_ints HV.out.symm HE.out.symm, (Kept.refl _).alloc _ _⟩
  · have HV := Lib.hid (show Fx.chkV x = 0 from if_neg h)
    have HE := Lib.hid (show Fx.chkE x = 2 from if_neg h)
    have h' : Fx.saneB x = false := by simpa using h
    clear h
    go_enter Tryz.func89, Tryz.ntmps89
    go_wp2_with (go_at_call 88; refine (sane_new1 x _).mono ?_; rintro e w' ⟨rfl, rfl⟩)
    go_ret2
    exact ⟨ret_ints HV.out.symm HE.out.symm, (Kept.refl _).alloc _ _⟩

set_option maxHeartbeats 400000 in
theorem rounded_any (n d : Int) (w : World) (hn : -4611686018427387904 ≤ n) (hn' : n ≤ 4611686018427387904) (hd : -2147483648 ≤ d) (hd' : d ≤ 2147483648) (h0 : d ≠ 0) :
    Calls Tryz.prog 186 #[.int .i64 n, .int .i64 d] w fun e w' => e = .returned (.int .i64 (Fx.rnd n d)) ∧ ∃ k, w' = w.drewN k := by
  have hmn := Fx.mag_le (b := 4611686018427387904) hn hn'
  have hmd := Fx.mag_le (b := 2147483648) hd hd'
  obtain ⟨q0, q1⟩ := Fx.tdiv_bd n d
  obtain ⟨r0, r1⟩ := Fx.tmod_bd n d h0
  have m0 := Fx.mag_nonneg (n.tmod d)
  have m1 : Fx.mag (n.tmod d) ≤ 2147483648 := Fx.mag_le (by omega) (by omega)
  by_cases h : 2 * Fx.mag (n.tmod d) < Fx.mag d
  · have HR := Lib.hid (Fx.rnd_low h)
    go_enter Tryz.func186, Tryz.ntmps186
    go_wp2
    go_quiet (fail)
    go_wp2_with (go_at_call 214; refine (magnitude_any _ _ (by omega) (by omega)).mono ?_; rintro e w' ⟨rfl, rfl⟩)
    go_ret
    exact ⟨ret_int HR.out.symm, _, rfl⟩
  · have H1 := Lib.hid (fun hs => Fx.rnd_less (n := n) (d := d) (by omega) hs)
    have H2 := Lib.hid (fun hs => Fx.rnd_more (n := n) (d := d) (by omega) hs)
    go_enter Tryz.func186, Tryz.ntmps186
    go_wp2
    go_quiet (fail)
    generalize n.tdiv d = q at *
    generalize n.tmod d = r at *
    by_cases a : n < 0 <;> by_cases b : d < 0
    · have HR := Lib.hid (H2.out (by omega))
      have a' : decide (n < 0) = true := by simpa using a
      have b' : decide (d < 0) = true := by simpa using b
      go_wp2_with (go_at_call 214; refine (magnitude_any _ _ (by omega) (by omega)).mono ?_; rintro e w' ⟨rfl, rfl⟩)
      go_ret
      exact ⟨ret_int HR.out.symm, _, rfl⟩
    · have HR := Lib.hid (H1.out (by omega))
      have a' : decide (n < 0) = true := by simpa using a
      have b' : decide (d < 0) = false := by simpa using b
      go_wp2_with (go_at_call 214; refine (magnitude_any _ _ (by omega) (by omega)).mono ?_; rintro e w' ⟨rfl, rfl⟩)
      go_ret
      exact ⟨ret_int HR.out.symm, _, rfl⟩
    · have HR := Lib.hid (H1.out (by omega))
      have a' : decide (n < 0) = false := by simpa using a
      have b' : decide (d < 0) = true := by simpa using b
      go_wp2_with (go_at_call 214; refine (magnitude_any _ _ (by omega) (by omega)).mono ?_; rintro e w' ⟨rfl, rfl⟩)
      go_ret
      exact ⟨ret_int HR.out.symm, _, rfl⟩
    · have HR := Lib.hid (H2.out (by omega))
      have a' : decide (n < 0) = false := by simpa using a
      have b' : decide (d < 0) = false := by simpa using b
      go_wp2_with (go_at_call 214; refine (magnitude_any _ _ (by omega) (by omega)).mono ?_; rintro e w' ⟨rfl, rfl⟩)
      go_ret
      exact ⟨ret_int HR.out.symm, _, rfl⟩

end Go.Proofs.YtbgdeaeikijdgaaGreatDoor

namespace Go.Proofs.YtbgdeaeikijdgaaGreatDoor
open Go.RowKit

set_option maxHeartbeats 400000 in
theorem grown_any (n c : Int) (w : World) (h0 : 0 ≤ n) (h1 : n ≤ 30000000000) (hc : 48 ≤ c) (hc' : c ≤ 57) :
    Calls Tryz.prog 195 #[.int .i64 n, .int .u8 c] w fun e w' => e = .returned (.int .i64 (Fx.grown n c)) ∧ w = w' := by
  by_cases h : 2147483648 < n
  · have HV := Lib.hid (show Fx.grown n c = n from if_pos h)
    go_enter Tryz.func195, Tryz.ntmps195
    go_wp2
    go_ret
    exact ⟨ret_int HV.out.symm, rfl⟩
  · have HV := Lib.hid (show Fx.grown n c = 10 * n + (c - 48) from if_neg h)
    go_enter Tryz.func195, Tryz.ntmps195
    go_wp2
    go_ret
    exact ⟨ret_int HV.out.symm, rfl⟩

set_option maxHeartbeats 400000 in
theorem digitAt_any (s : ByteArray) (i : Nat) (w : World) :
    Calls Tryz.prog 196 #[.string s, .int .i64 i] w fun e w' => e = .returned (.int .u8 (Fx.dAt s.data.toList i)) ∧ w = w' := by
  by_cases h : i < s.size
  · have HV := Lib.hid (show Fx.dAt s.data.toList i = (s[i].toNat : Int) by
      unfold Fx.dAt
      rw [List.getElem?_eq_getElem (by simpa using h), Option.getD_some]; rfl)
    go_enter Tryz.func196, Tryz.ntmps196
    go_wp2
    go_ret
    exact ⟨ret_int HV.out.symm, rfl⟩
  · have HV := Lib.hid (show Fx.dAt s.data.toList i = 48 by
      unfold Fx.dAt
      rw [List.getElem?_eq_none (by simp; omega), Option.getD_none]; rfl)
    go_enter Tryz.func196, Tryz.ntmps196
    go_wp2
    go_ret
    exact ⟨ret_int HV.out.symm, rfl⟩

theorem take_snoc (s : ByteArray) (k : Nat) (h : k < s.size) : s.data.toList.take (k + 1) = s.data.toList.take k ++ [s[k]] := by
  rw [List.take_succ_eq_append_getElem (by simpa using h)]; rfl

set_option maxHeartbeats 400000 in
theorem allDigits_any (s : ByteArray) (w : World) (hs : s.size ≤ 9223372036854775807) :
    Calls Tryz.prog 169 #[.string s] w fun e w' => e = .returned (.bool (Fx.allDig s.data.toList)) ∧ w = w' := by
  go_enter Tryz.func169, Tryz.ntmps169
  go_wp2
  go_loop [6] (fun i => ∃ k : Nat, k ≤ s.size ∧ i = .int .i64 k ∧ Hid (Fx.allDig (s.data.toList.take k) = true)) (fun i => s.size - (intOf i).toNat)
  case atStart => exact ⟨0, Nat.zero_le _, rfl, Lib.hid rfl⟩
  case round =>
    obtain ⟨k, hk, rfl, hd⟩ := hrel
    by_cases hlt : k < s.size
    · have HE := Lib.hid (take_snoc s k hlt)
      have HM := Lib.hid (show s[k] ∈ s.data.toList from List.getElem_mem (l := s.data.toList) (by simpa using hlt))
      by_cases h1 : (s[k].toNat : Int) < 48
      · have HN := Lib.hid (show Fx.isDig s[k] = false by rw [Bool.eq_false_iff, Ne, Fx.isDig_iff]; omega)
        go_wp2
        go_ret
        exact ⟨ret_bool (Fx.allDig_no HM.out HN.out).symm, rfl⟩
      · by_cases h2 : 57 < (s[k].toNat : Int)
        · have HN := Lib.hid (show Fx.isDig s[k] = false by rw [Bool.eq_false_iff, Ne, Fx.isDig_iff]; omega)
          go_wp2
          go_ret
          exact ⟨ret_bool (Fx.allDig_no HM.out HN.out).symm, rfl⟩
        · have HN := Lib.hid (show Fx.isDig s[k] = true by rw [Fx.isDig_iff]; omega)
          go_wp2
          go_round
          case rel => exact ⟨k + 1, by omega, by go_num, Lib.hid (by rw [HE.out]; exact Fx.allDig_snoc hd.out HN.out)⟩
          case measure => simp [intOf]; omega
    · go_wp2
      go_ret
      refine ⟨ret_bool ?_, rfl⟩
      have := hd.out
      rw [List.take_of_length_le (by simp; omega)] at this
      exact this.symm

set_option maxHeartbeats 400000 in
theorem thousandths_any (s p : ByteArray) (w : World) (hs : s.size ≤ 9223372036854775807) (hd : Fx.allDig s.data.toList = true) (hp : Fx.allDig p.data.toList = true) :
    Calls Tryz.prog 170 #[.string s, .string p] w fun e w' => e = .returned (.int .i64 (Fx.thou s.data.toList p.data.toList)) ∧ w = w' := by
  have HD := Lib.hid hd
  have HP := Lib.hid hp
  clear hd hp
  go_enter Tryz.func170, Tryz.ntmps170
  go_wp2
  go_loop [5, 10] (fun n i => ∃ k : Nat, k ≤ s.size ∧ i = .int .i64 k ∧ n = .int .i64 (Fx.grownAll 0 (s.data.toList.take k))) (fun _ i => s.size - (intOf i).toNat)
  case atStart => exact ⟨0, Nat.zero_le _, rfl, rfl⟩
  case round =>
    obtain ⟨k, hk, rfl, rfl⟩ := hrel
    obtain ⟨b0, b1⟩ := Fx.grownAll_bd (Fx.allDig_take HD.out k) (n := 0) (by omega) (by omega)
    by_cases hlt : k < s.size
    · have HE := Lib.hid (show Fx.grownAll 0 (s.data.toList.take (k + 1)) = Fx.grown (Fx.grownAll 0 (s.data.toList.take k)) s[k].toNat by
        rw [take_snoc s k hlt, Fx.grownAll_snoc])
      obtain ⟨c0, c1⟩ := Fx.isDig_iff.1 (Fx.allDig_mem HD.out (show s[k] ∈ s.data.toList from List.getElem_mem (l := s.data.toList) (by simpa using hlt)))
      generalize Fx.grownAll 0 (s.data.toList.take k) = n at *
      go_wp2_with (go_at_call 195; refine (grown_any _ _ _ (by omega) (by omega) (by omega) (by omega)).mono ?_; rintro e w' ⟨rfl, rfl⟩)
      go_round
      case rel => exact ⟨k + 1, by omega, by go_num, by rw [HE.out]⟩
      case measure => simp [intOf]; omega
    · have HE := Lib.hid (show Fx.grownAll 0 (s.data.toList.take k) = Fx.thou3 s.data.toList p.data.toList 0 by
        rw [List.take_of_length_le (by simp; omega)]; rfl)
      go_wp2
      rw [HE.out]
      clear b0 b1
      go_loop [5, 19] (fun n i => ∃ k : Nat, k ≤ 3 ∧ i = .int .i64 k ∧ n = .int .i64 (Fx.thou3 s.data.toList p.data.toList k)) (fun _ i => 3 - (intOf i).toNat)
      case atStart => exact ⟨0, by omega, rfl, rfl⟩
      case round =>
        obtain ⟨j, hj, rfl, rfl⟩ := hrel
        obtain ⟨b0, b1⟩ := Fx.thou3_bd HD.out HP.out j
        obtain ⟨d0, d1⟩ := Fx.dAt_dig HP.out j
        by_cases h3 : j < 3
        · have HF := Lib.hid (show Fx.thou3 s.data.toList p.data.toList (j + 1) = Fx.grown (Fx.thou3 s.data.toList p.data.toList j) (Fx.dAt p.data.toList j) from rfl)
          generalize Fx.thou3 s.data.toList p.data.toList j = n at *
          go_wp2_with (first | (go_at_call 195; refine (grown_any _ _ _ (by omega) (by omega) (by omega) (by omega)).mono ?_; rintro e w' ⟨rfl, rfl⟩) | (go_at_call 196; refine (digitAt_any _ _ _).mono ?_; rintro e w' ⟨rfl, rfl⟩))
          go_round
          case rel => exact ⟨j + 1, by omega, by go_num, by rw [HF.out]⟩
          case measure => simp [intOf]; omega
        · obtain rfl : j = 3 := by omega
          obtain ⟨e0, e1⟩ := Fx.dAt_dig HP.out 3
          by_cases h5 : 53 ≤ Fx.dAt p.data.toList 3
          · have HF := Lib.hid (show Fx.thou s.data.toList p.data.toList = Fx.thou3 s.data.toList p.data.toList 3 + 1 from if_pos h5)
            generalize Fx.thou3 s.data.toList p.data.toList 3 = n at *
            go_wp2_with (go_at_call 196; refine (digitAt_any _ 3 _).mono ?_; rintro e w' ⟨rfl, rfl⟩)
            go_ret
            exact ⟨ret_int HF.out.symm, rfl⟩
          · have HF := Lib.hid (show Fx.thou s.data.toList p.data.toList = Fx.thou3 s.data.toList p.data.toList 3 from if_neg h5)
            generalize Fx.thou3 s.data.toList p.data.toList 3 = n at *
            go_wp2_with (go_at_call 196; refine (digitAt_any _ 3 _).mono ?_; rintro e w' ⟨rfl, rfl⟩)
            go_ret
            exact ⟨ret_int HF.out.symm, rfl⟩

theorem ret_sign {a b : Bool} {c d : ByteArray} (h : a = b) (h' : c = d) : Ending.returned (.tuple #[.bool a, .string c]) = .returned (.tuple #[.bool b, .string d]) := by rw [h, h']

set_option maxHeartbeats 400000 in
theorem cutSign_nil (w : World) :
    Calls Tryz.prog 167 #[.string ⟨#[]⟩] w fun e w' => e = .returned (.tuple #[.bool false, .string ⟨#[]⟩]) ∧ ∃ k, w' = w.drewN k := by
  go_enter Tryz.func167, Tryz.ntmps167
  go_wp2
  go_ret2
  exact ⟨rfl, 0, rfl⟩

theorem behind_one (c : UInt8) (r : List UInt8) : (⟨(c :: r).toArray⟩ : ByteArray).extract 1 (r.length + 1) = ⟨r.toArray⟩ := by
  apply ByteArray.ext
  rw [ByteArray.data_extract]
  simp

set_option maxHeartbeats 400000 in
theorem cutSign_cons (c : UInt8) (r : List UInt8) (w : World) :
    Calls Tryz.prog 167 #[.string ⟨(c :: r).toArray⟩] w fun e w' => e = .returned (.tuple #[.bool (Fx.signOf (c :: r)), .string ⟨(Fx.behindSign (c :: r)).toArray⟩]) ∧ ∃ k, w' = w.drewN k := by
  have hz : 0 < (⟨(c :: r).toArray⟩ : ByteArray).size := Nat.succ_pos _
  have e0 : (⟨(c :: r).toArray⟩ : ByteArray)[0] = c := rfl
  have HB := Lib.hid (behind_one c r)
  by_cases hp : c.toNat = 43
  · have HS := Lib.hid (Fx.sign_plus hp r)
    have e1 : (((⟨(c :: r).toArray⟩ : ByteArray)[0].toNat : Int) == 43) = true := by rw [e0]; rw [beq_iff_eq]; omega
    have e2 : (((⟨(c :: r).toArray⟩ : ByteArray)[0].toNat : Int) == 45) = false := by rw [e0]; rw [beq_eq_false_iff_ne]; omega
    clear e0
    go_enter Tryz.func167, Tryz.ntmps167
    go_wp2
    go_quiet (fail)
    go_wp2
    go_ret2
    exact ⟨ret_sign HS.out.1.symm (by rw [HS.out.2]; exact HB.out), _, rfl⟩
  by_cases hm : c.toNat = 45
  · have HS := Lib.hid (Fx.sign_minus hm r)
    have e1 : (((⟨(c :: r).toArray⟩ : ByteArray)[0].toNat : Int) == 43) = false := by rw [e0]; rw [beq_eq_false_iff_ne]; omega
    have e2 : (((⟨(c :: r).toArray⟩ : ByteArray)[0].toNat : Int) == 45) = true := by rw [e0]; rw [beq_iff_eq]; omega
    clear e0
    go_enter Tryz.func167, Tryz.ntmps167
    go_wp2
    go_quiet (fail)
    go_wp2
    go_ret2
    exact ⟨ret_sign HS.out.1.symm (by rw [HS.out.2]; exact HB.out), _, rfl⟩
  · have HS := Lib.hid (Fx.sign_none hp hm r)
    have e1 : (((⟨(c :: r).toArray⟩ : ByteArray)[0].toNat : Int) == 43) = false := by rw [e0]; rw [beq_eq_false_iff_ne]; omega
    have e2 : (((⟨(c :: r).toArray⟩ : ByteArray)[0].toNat : Int) == 45) = false := by rw [e0]; rw [beq_eq_false_iff_ne]; omega
    clear e0
    go_enter Tryz.func167, Tryz.ntmps167
    go_wp2
    go_ret2
    exact ⟨ret_sign HS.out.1.symm (by rw [HS.out.2]), 0, rfl⟩

end Go.Proofs.YtbgdeaeikijdgaaGreatDoor

namespace Go.Proofs.YtbgdeaeikijdgaaGreatDoor
open Go.RowKit

theorem cutSign_any (l : List UInt8) (w : World) :
    Calls Tryz.prog 167 #[.string ⟨l.toArray⟩] w fun e w' => e = .returned (.tuple #[.bool (Fx.signOf l), .string ⟨(Fx.behindSign l).toArray⟩]) ∧ ∃ k, w' = w.drewN k := by
  cases l with
  | nil => exact cutSign_nil w
  | cons c r => exact cutSign_cons c r w

theorem Cut_any (d : List UInt8) (w : World) (hd : d.length ≤ 4000000000) (hf : HasMax w) :
    Calls Tryz.prog 168 #[.string ⟨d.toArray⟩, .string ⟨#[46]⟩] w fun e w' => e = .returned (.tuple #[.string ⟨(Fx.wholeOf d).toArray⟩, .string ⟨(Fx.partOf d).toArray⟩, .bool (Fx.pointIn d)]) ∧ ∃ k, w' = w.drewN k := by
  obtain ⟨m, hm⟩ := hf
  exact Tryz.strings_Cut ⟨d.toArray⟩ ⟨#[46]⟩ m w (show d.toArray.size < _ by simp; omega) hm

theorem allDigits_list (l : List UInt8) (w : World) (hl : l.length ≤ 9223372036854775807) :
    Calls Tryz.prog 169 #[.string ⟨l.toArray⟩] w fun e w' => e = .returned (.bool (Fx.allDig l)) ∧ w = w' :=
  allDigits_any ⟨l.toArray⟩ w (show l.toArray.size ≤ _ by simpa using hl)
theorem thousandths_list (l p : List UInt8) (w : World) (hl : l.length ≤ 9223372036854775807) (hd : Fx.allDig l = true) (hp : Fx.allDig p = true) :
    Calls Tryz.prog 170 #[.string ⟨l.toArray⟩, .string ⟨p.toArray⟩] w fun e w' => e = .returned (.int .i64 (Fx.thou l p)) ∧ w = w' :=
  thousandths_any ⟨l.toArray⟩ ⟨p.toArray⟩ w (show l.toArray.size ≤ _ by simpa using hl) hd hp

set_option maxHeartbeats 400000 in
theorem Parse_long (l : List UInt8) (w : World) (hl : 400 < l.length) (hl' : l.length ≤ 9223372036854775807) :
    Calls Tryz.prog 145 #[.string ⟨l.toArray⟩] w fun e w' => e = .returned (.tuple #[.int .i64 (Fx.parseV l), .int .i64 (Fx.parseE l)]) ∧ Kept w w' := by
  have HP := Lib.hid (Fx.parse_long hl)
  go_enter Tryz.func145, Tryz.ntmps145
  go_wp2
  go_ret2
  exact ⟨ret_ints HP.out.1.symm HP.out.2.symm, Kept.refl _⟩

set_option maxHeartbeats 1000000 in
theorem Parse_short (l : List UInt8) (w : World) (hl : l.length ≤ 400) (hf : HasMax w) :
    Calls Tryz.prog 145 #[.string ⟨l.toArray⟩] w fun e w' => e = .returned (.tuple #[.int .i64 (Fx.parseV l), .int .i64 (Fx.parseE l)]) ∧ Kept w w' := by
  have hb := Fx.behindSign_le l
  have hw := Fx.wholeOf_le (Fx.behindSign l)
  have hp := Fx.partOf_le (Fx.behindSign l)
  by_cases hz0 : (Fx.wholeOf (Fx.behindSign l)).length + (Fx.partOf (Fx.behindSign l)).length = 0
  · have HP := Lib.hid (Fx.parse_form (l := l) (by omega) (Fx.form_zero hz0))
    have hz : (((Fx.wholeOf (Fx.behindSign l)).length : Int) + ((Fx.partOf (Fx.behindSign l)).length : Int) == 0) = true := by rw [beq_iff_eq]; omega
    clear hz0
    go_enter Tryz.func145, Tryz.ntmps145
    go_wp2_with (first | (go_at_call 167; refine (cutSign_any _ _).mono ?_; rintro e w' ⟨rfl, k1, rfl⟩) | (go_at_call 168; refine (Cut_any _ _ (by omega) (hf.kept ((Kept.refl _).drewN _))).mono ?_; rintro e w' ⟨rfl, k2, rfl⟩))
    go_ret2
    exact ⟨ret_ints HP.out.1.symm HP.out.2.symm, (Kept.refl _).drewN _⟩
  have hz : (((Fx.wholeOf (Fx.behindSign l)).length : Int) + ((Fx.partOf (Fx.behindSign l)).length : Int) == 0) = false := by rw [beq_eq_false_iff_ne]; omega
  cases h1 : Fx.allDig (Fx.wholeOf (Fx.behindSign l))
  · have HP := Lib.hid (Fx.parse_form (l := l) (by omega) (Fx.form_whole h1))
    clear hz0
    go_enter Tryz.func145, Tryz.ntmps145
    go_wp2_with (first | (go_at_call 167; refine (cutSign_any _ _).mono ?_; rintro e w' ⟨rfl, k1, rfl⟩) | (go_at_call 168; refine (Cut_any _ _ (by omega) (hf.kept ((Kept.refl _).drewN _))).mono ?_; rintro e w' ⟨rfl, k2, rfl⟩) | (go_at_call 169; refine (allDigits_list _ _ (by omega)).mono ?_; rintro e w' ⟨rfl, rfl⟩))
    go_ret2
    exact ⟨ret_ints HP.out.1.symm HP.out.2.symm, (Kept.refl _).drewN _⟩
  cases h2 : Fx.allDig (Fx.partOf (Fx.behindSign l))
  · have HP := Lib.hid (Fx.parse_form (l := l) (by omega) (Fx.form_part h2))
    clear hz0
    go_enter Tryz.func145, Tryz.ntmps145
    go_wp2_with (first | (go_at_call 167; refine (cutSign_any _ _).mono ?_; rintro e w' ⟨rfl, k1, rfl⟩) | (go_at_call 168; refine (Cut_any _ _ (by omega) (hf.kept ((Kept.refl _).drewN _))).mono ?_; rintro e w' ⟨rfl, k2, rfl⟩) | (go_at_call 169; refine (allDigits_list _ _ (by omega)).mono ?_; rintro e w' ⟨rfl, rfl⟩))
    go_ret2
    exact ⟨ret_ints HP.out.1.symm HP.out.2.symm, (Kept.refl _).drewN _⟩
  have HP := Lib.hid (Fx.parse_num (l := l) (by omega) (Fx.form_yes hz0 h1 h2))
  obtain ⟨n0, n1⟩ := Fx.thou_bd h1 h2
  cases hs : Fx.signOf l
  · have HN := Lib.hid (show Fx.numOf l = Fx.thou (Fx.wholeOf (Fx.behindSign l)) (Fx.partOf (Fx.behindSign l)) from if_neg (by rw [hs]; simp))
    clear hz0
    go_enter Tryz.func145, Tryz.ntmps145
    go_wp2_with (first | (go_at_call 167; refine (cutSign_any _ _).mono ?_; rintro e w' ⟨rfl, k1, rfl⟩) | (go_at_call 168; refine (Cut_any _ _ (by omega) (hf.kept ((Kept.refl _).drewN _))).mono ?_; rintro e w' ⟨rfl, k2, rfl⟩) | (go_at_call 169; refine (allDigits_list _ _ (by omega)).mono ?_; rintro e w' ⟨rfl, rfl⟩) | (go_at_call 170; refine (thousandths_list _ _ _ (by omega) (by assumption) (by assumption)).mono ?_; rintro e w' ⟨rfl, rfl⟩) | (go_at_call 89; refine (checked_any _ _).mono ?_; rintro e w' ⟨rfl, hg⟩))
    go_ret2
    exact ⟨ret_ints (by rw [HP.out.1, HN.out]) (by rw [HP.out.2, HN.out]), Kept.trans ((Kept.refl _).drewN _) hg⟩
  · have HN := Lib.hid (show Fx.numOf l = -(Fx.thou (Fx.wholeOf (Fx.behindSign l)) (Fx.partOf (Fx.behindSign l))) from if_pos hs)
    clear hz0
    go_enter Tryz.func145, Tryz.ntmps145
    go_wp2_with (first | (go_at_call 167; refine (cutSign_any _ _).mono ?_; rintro e w' ⟨rfl, k1, rfl⟩) | (go_at_call 168; refine (Cut_any _ _ (by omega) (hf.kept ((Kept.refl _).drewN _))).mono ?_; rintro e w' ⟨rfl, k2, rfl⟩) | (go_at_call 169; refine (allDigits_list _ _ (by omega)).mono ?_; rintro e w' ⟨rfl, rfl⟩) | (go_at_call 170; refine (thousandths_list _ _ _ (by omega) (by assumption) (by assumption)).mono ?_; rintro e w' ⟨rfl, rfl⟩) | (go_at_call 89; refine (checked_any _ _).mono ?_; rintro e w' ⟨rfl, hg⟩))
    go_ret2
    exact ⟨ret_ints (by rw [HP.out.1, HN.out]) (by rw [HP.out.2, HN.out]), Kept.trans ((Kept.refl _).drewN _) hg⟩

theorem Parse_max (l : List UInt8) (w : World) (hl : l.length ≤ 9223372036854775807) (hf : HasMax w) :
    Calls Tryz.prog 145 #[.string ⟨l.toArray⟩] w fun e w' => e = .returned (.tuple #[.int .i64 (Fx.parseV l), .int .i64 (Fx.parseE l)]) ∧ Kept w w' := by
  by_cases h : 400 < l.length
  · exact Parse_long l w h hl
  · exact Parse_short l w (by omega) hf

theorem Parse_any (l : List UInt8) (w : World) (hl : l.length ≤ 9223372036854775807) (hf : Fine w) :
    Calls Tryz.prog 145 #[.string ⟨l.toArray⟩] w fun e w' => e = .returned (.tuple #[.int .i64 (Fx.parseV l), .int .i64 (Fx.parseE l)]) ∧ Kept w w' :=
  Parse_max l w hl hf.1

end Go.Proofs.YtbgdeaeikijdgaaGreatDoor

namespace Go.Proofs.YtbgdeaeikijdgaaGreatDoor
open Go.RowKit

set_option maxHeartbeats 400000 in
theorem Add_any (a b : Int) (w : World) :
    Calls Tryz.prog 58 #[.int .i64 a, .int .i64 b] w fun e w' => e = .returned (.tuple #[.int .i64 (Fx.addV a b), .int .i64 (Fx.addE a b)]) ∧ Kept w w' := by
  by_cases h : Fx.saneB a = true ∧ Fx.saneB b = true
  · have HV := Lib.hid (show Fx.addV a b = Fx.chkV (a + b) from if_pos h)
    have HE := Lib.hid (show Fx.addE a b = Fx.chkE (a + b) from if_pos h)
    have hs : (Fx.saneB a && Fx.saneB b) = true := by simp [h]
    obtain ⟨ha, hb⟩ := h
    have a0 := Fx.sane_lo ha
    have a1 := Fx.sane_hi ha
    have b0 := Fx.sane_lo hb
    have b1 := Fx.sane_hi hb
    go_enter Tryz.func58, Tryz.ntmps58
    go_wp2_with (first | (go_at_call 88; refine (sane_new2 a b _).mono ?_; rintro e w' ⟨rfl, rfl⟩) | (go_at_call 89; refine (checked_any _ _).mono ?_; rintro e w' ⟨rfl, hg⟩))
    go_ret2
    exact ⟨ret_ints HV.out.symm HE.out.symm, Kept.trans ((Kept.refl _).alloc _ _) hg⟩
  · have HV := Lib.hid (show Fx.addV a b = 0 from if_neg h)
    have HE := Lib.hid (show Fx.addE a b = 2 from if_neg h)
    have hs : (Fx.saneB a && Fx.saneB b) = false := by simpa using h
    clear h
    go_enter Tryz.func58, Tryz.ntmps58
    go_wp2_with (go_at_call 88; refine (sane_new2 a b _).mono ?_; rintro e w' ⟨rfl, rfl⟩)
    go_ret2
    exact ⟨ret_ints HV.out.symm HE.out.symm, (Kept.refl _).alloc _ _⟩

set_option maxHeartbeats 400000 in
theorem Sub_any (a b : Int) (w : World) :
    Calls Tryz.prog 63 #[.int .i64 a, .int .i64 b] w fun e w' => e = .returned (.tuple #[.int .i64 (Fx.subV a b), .int .i64 (Fx.subE a b)]) ∧ Kept w w' := by
  by_cases h : Fx.saneB a = true ∧ Fx.saneB b = true
  · have HV := Lib.hid (show Fx.subV a b = Fx.chkV (a - b) from if_pos h)
    have HE := Lib.hid (show Fx.subE a b = Fx.chkE (a - b) from if_pos h)
    have hs : (Fx.saneB a && Fx.saneB b) = true := by simp [h]
    obtain ⟨ha, hb⟩ := h
    have a0 := Fx.sane_lo ha
    have a1 := Fx.sane_hi ha
    have b0 := Fx.sane_lo hb
    have b1 := Fx.sane_hi hb
    go_enter Tryz.func63, Tryz.ntmps63
    go_wp2_with (first | (go_at_call 88; refine (sane_new2 a b _).mono ?_; rintro e w' ⟨rfl, rfl⟩) | (go_at_call 89; refine (checked_any _ _).mono ?_; rintro e w' ⟨rfl, hg⟩))
    go_ret2
    exact ⟨ret_ints HV.out.symm HE.out.symm, Kept.trans ((Kept.refl _).alloc _ _) hg⟩
  · have HV := Lib.hid (show Fx.subV a b = 0 from if_neg h)
    have HE := Lib.hid (show Fx.subE a b = 2 from if_neg h)
    have hs : (Fx.saneB a && Fx.saneB b) = false := by simpa using h
    clear h
    go_enter Tryz.func63, Tryz.ntmps63
    go_wp2_with (go_at_call 88; refine (sane_new2 a b _).mono ?_; rintro e w' ⟨rfl, rfl⟩)
    go_ret2
    exact ⟨ret_ints HV.out.symm HE.out.symm, (Kept.refl _).alloc _ _⟩

set_option maxHeartbeats 400000 in
theorem Mul_any (a b : Int) (w : World) :
    Calls Tryz.prog 156 #[.int .i64 a, .int .i64 b] w fun e w' => e = .returned (.tuple #[.int .i64 (Fx.mulV a b), .int .i64 (Fx.mulE a b)]) ∧ Kept w w' := by
  by_cases h : Fx.saneB a = true ∧ Fx.saneB b = true
  · have HV := Lib.hid (show Fx.mulV a b = Fx.chkV (Fx.rnd (a * b) 1000) from if_pos h)
    have HE := Lib.hid (show Fx.mulE a b = Fx.chkE (Fx.rnd (a * b) 1000) from if_pos h)
    have hs : (Fx.saneB a && Fx.saneB b) = true := by simp [h]
    obtain ⟨ha, hb⟩ := h
    obtain ⟨m0, m1⟩ := Fx.mul_bd ha hb
    have hg1 := Kept.alloc (Kept.refl w) #[.int .i64 a, .int .i64 b] 26
    have HG := Lib.hid hg1
    clear hg1
    go_enter Tryz.func156, Tryz.ntmps156
    go_wp2_with (first | (go_at_call 88; refine (sane_new2 a b _).mono ?_; rintro e w' ⟨rfl, rfl⟩) | (go_at_call 186; refine (rounded_any _ _ _ (by omega) (by omega) (by omega) (by omega) (by omega)).mono ?_; rintro e w' ⟨rfl, k, rfl⟩) | (go_at_call 89; refine (checked_any _ _).mono ?_; rintro e w' ⟨rfl, hg⟩))
    go_ret2
    exact ⟨ret_ints HV.out.symm HE.out.symm, Kept.trans (Kept.drewN HG.out k) hg⟩
  · have HV := Lib.hid (show Fx.mulV a b = 0 from if_neg h)
    have HE := Lib.hid (show Fx.mulE a b = 2 from if_neg h)
    have hs : (Fx.saneB a && Fx.saneB b) = false := by simpa using h
    clear h
    go_enter Tryz.func156, Tryz.ntmps156
    go_wp2_with (go_at_call 88; refine (sane_new2 a b _).mono ?_; rintro e w' ⟨rfl, rfl⟩)
    go_ret2
    exact ⟨ret_ints HV.out.symm HE.out.symm, (Kept.refl _).alloc _ _⟩

end Go.Proofs.YtbgdeaeikijdgaaGreatDoor
