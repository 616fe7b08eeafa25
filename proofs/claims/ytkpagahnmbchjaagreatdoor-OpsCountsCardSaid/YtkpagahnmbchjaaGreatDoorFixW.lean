/-
  What package fix's reckoning functions answer: Sane, checked, magnitude, rounded.
  What package fix's functions on texts answer: digitAt, grown, allDigits, thousandths, cutSign.
  What package fix's Parse answers, at every text.
  What package fix's Add, Sub, Mul, Div and Int answer, at all numbers.
  What package fix's Print answers, at every number.
-/
import Derived.Test.YtkpagahnmbchjaaGreatDoorXBase
import Derived.Test.YtkpagahnmbchjaaGreatDoorFixMs
import Derived.WalkKit
import Derived.WalkSpells
import Derived.WalkLawsBesides
import Derived.BigQuiet
import Derived.Deep.QuietTactic
import Derived.Lib.Hide
import Derived.Test.YtkpagahnmbchjaaGreatDoorShelf
namespace Go.Proofs.YtkpagahnmbchjaaGreatDoor
open Go.RowKit

theorem ret_int {k : IntKind} {a b : Int} (h : a = b) : Ending.returned (.int k a) = .returned (.int k b) := by rw [h]
theorem ret_bool {a b : Bool} (h : a = b) : Ending.returned (.bool a) = .returned (.bool b) := by rw [h]
theorem ret_ints {a b c d : Int} (h : a = b) (h' : c = d) : Ending.returned (.tuple #[.int .i64 a, .int .i64 c]) = .returned (.tuple #[.int .i64 b, .int .i64 d]) := by rw [h, h']

set_option maxHeartbeats 400000 in
/-- Sane, at numbers that lie in memory one behind the other. -/
theorem sane_any (zs : List Int) (b : Nat) (w : World) (hl : zs.length ≤ 9223372036854775807) (hc : ∀ i, i < zs.length → w.cell? ⟨b, i, none⟩ = some (.int .i64 (zs.getD i 0))) :
    Calls Tryz.prog 81 #[.slice (some ⟨b, 0, none⟩) zs.length zs.length] w fun e w' => e = .returned (.bool (zs.all Fx.saneB)) ∧ w = w' := by
  have HC := Lib.hid hc
  clear hc
  go_enter Tryz.func81, Tryz.ntmps81
  go_wp2
  go_loop [7] (fun i => ∃ k : Nat, k ≤ zs.length ∧ i = .int .i64 k ∧ Hid ((zs.take k).all Fx.saneB = true)) (fun i => zs.length - (intOf i).toNat)
  case atStart => exact ⟨0, Nat.zero_le _, rfl, Lib.hid rfl⟩
  case round =>
    obtain ⟨k, hk, rfl, hs⟩ := hrel
    by_cases hlt : k < zs.length
    · have hcell := HC.out k hlt
      have HE := Lib.hid (show zs.take (k + 1) = zs.take k ++ [zs.getD k 0] by
        rw [List.take_succ_eq_append_getElem hlt, Fx.getD_at _ _ hlt])
      have HM := Lib.hid (show zs.getD k 0 ∈ zs by rw [Fx.getD_at _ _ hlt]; exact List.getElem_mem hlt)
      generalize zs.getD k 0 = x at *
      by_cases h1 : x < -2147483648
      · go_wp2
        go_ret
        refine ⟨ret_bool ?_, rfl⟩
        symm
        rw [List.all_eq_false]
        exact ⟨x, HM.out, by rw [Fx.sane_iff]; omega⟩
      · by_cases h2 : 2147483648 < x
        · go_wp2
          go_ret
          refine ⟨ret_bool ?_, rfl⟩
          symm
          rw [List.all_eq_false]
          exact ⟨x, HM.out, by rw [Fx.sane_iff]; omega⟩
        · go_wp2
          go_round
          case rel => exact ⟨k + 1, by omega, by go_num, Lib.hid (by rw [HE.out, List.all_append, hs.out]; simp [Fx.sane_iff]; omega)⟩
          case measure => simp [intOf]; omega
    · go_wp2
      go_ret
      refine ⟨ret_bool ?_, rfl⟩
      have := hs.out
      rw [List.take_of_length_le (by omega)] at this
      exact this.symm

theorem sane_1 (x : Int) (b : Nat) (w : World) (hc : w.cell? ⟨b, 0, none⟩ = some (.int .i64 x)) :
    Calls Tryz.prog 81 #[.slice (some ⟨b, 0, none⟩) 1 1] w fun e w' => e = .returned (.bool (Fx.saneB x)) ∧ w = w' := by
  have h := sane_any [x] b w (by simp) (by intro i hi; obtain rfl : i = 0 := by simpa using hi
                                           exact hc)
  simpa using h
theorem sane_2 (x y : Int) (b : Nat) (w : World) (hc : w.cell? ⟨b, 0, none⟩ = some (.int .i64 x)) (hd : w.cell? ⟨b, 1, none⟩ = some (.int .i64 y)) :
    Calls Tryz.prog 81 #[.slice (some ⟨b, 0, none⟩) 2 2] w fun e w' => e = .returned (.bool (Fx.saneB x && Fx.saneB y)) ∧ w = w' := by
  have h := sane_any [x, y] b w (by simp) (by
    intro i hi
    have : i = 0 ∨ i = 1 := by simp at hi; omega
    rcases this with rfl | rfl
    · exact hc
    · exact hd)
  simpa using h

theorem sane_new1 (x : Int) (w : World) :
    Calls Tryz.prog 81 #[.slice (some ⟨w.heap.size, 0, none⟩) 1 1] (w.alloc (.cells #[.int .i64 x] 29)) fun e w' => e = .returned (.bool (Fx.saneB x)) ∧ w.alloc (.cells #[.int .i64 x] 29) = w' :=
  sane_1 x _ _ (by simp [go_sem])
theorem sane_new2 (x y : Int) (w : World) :
    Calls Tryz.prog 81 #[.slice (some ⟨w.heap.size, 0, none⟩) 2 2] (w.alloc (.cells #[.int .i64 x, .int .i64 y] 29)) fun e w' => e = .returned (.bool (Fx.saneB x && Fx.saneB y)) ∧ w.alloc (.cells #[.int .i64 x, .int .i64 y] 29) = w' :=
  sane_2 x y _ _ (by simp [go_sem]) (by simp [go_sem])

set_option maxHeartbeats 400000 in
theorem checked_any (x : Int) (w : World) :
    Calls Tryz.prog 113 #[.int .i64 x] w fun e w' => e = .returned (.tuple #[.int .i64 (Fx.chkV x), .int .i64 (Fx.chkE x)]) ∧ Kept w w' := by
  by_cases h : Fx.saneB x = true
  · have HV := Lib.hid (show Fx.chkV x = x from if_pos h)
    have HE := Lib.hid (show Fx.chkE x = 0 from if_pos h)
    go_enter Tryz.func113, Tryz.ntmps113
    go_wp2_with (go_at_call 81; refine (sane_new1 x _).mono ?_; rintro e w' ⟨rfl, rfl⟩)
    go_ret2
    exact ⟨ret_ints HV.out.symm HE.out.symm, (Kept.refl _).alloc _ _⟩
  · have HV := Lib.hid (show Fx.chkV x = 0 from if_neg h)
    have HE := Lib.hid (show Fx.chkE x = 2 from if_neg h)
    have h' : Fx.saneB x = false := by simpa using h
    clear h
    go_enter Tryz.func113, Tryz.ntmps113
    go_wp2_with (go_at_call 81; refine (sane_new1 x _).mono ?_; rintro e w' ⟨rfl, rfl⟩)
    go_ret2
    exact ⟨ret_ints HV.out.symm HE.out.symm, (Kept.refl _).alloc _ _⟩

end Go.Proofs.YtkpagahnmbchjaaGreatDoor

namespace Go.Proofs.YtkpagahnmbchjaaGreatDoor
open Go.RowKit

set_option maxHeartbeats 400000 in
theorem grown_any (n c : Int) (w : World) (h0 : 0 ≤ n) (h1 : n ≤ 30000000000) (hc : 48 ≤ c) (hc' : c ≤ 57) :
    Calls Tryz.prog 130 #[.int .i64 n, .int .u8 c] w fun e w' => e = .returned (.int .i64 (Fx.grown n c)) ∧ w = w' := by
  by_cases h : 2147483648 < n
  · have HV := Lib.hid (show Fx.grown n c = n from if_pos h)
    go_enter Tryz.func130, Tryz.ntmps130
    go_wp2
    go_ret
    exact ⟨ret_int HV.out.symm, rfl⟩
  · have HV := Lib.hid (show Fx.grown n c = 10 * n + (c - 48) from if_neg h)
    go_enter Tryz.func130, Tryz.ntmps130
    go_wp2
    go_ret
    exact ⟨ret_int HV.out.symm, rfl⟩

set_option maxHeartbeats 400000 in
theorem digitAt_any (s : ByteArray) (i : Nat) (w : World) :
    Calls Tryz.prog 131 #[.string s, .int .i64 i] w fun e w' => e = .returned (.int .u8 (Fx.dAt s.data.toList i)) ∧ w = w' := by
  by_cases h : i < s.size
  · have HV := Lib.hid (show Fx.dAt s.data.toList i = (s[i].toNat : Int) by
      unfold Fx.dAt
      rw [List.getElem?_eq_getElem (by simpa using h), Option.getD_some]; rfl)
    go_enter Tryz.func131, Tryz.ntmps131
    go_wp2
    go_ret
    exact ⟨ret_int HV.out.symm, rfl⟩
  · have HV := Lib.hid (show Fx.dAt s.data.toList i = 48 by
      unfold Fx.dAt
      rw [List.getElem?_eq_none (by simp; omega), Option.getD_none]; rfl)
    go_enter Tryz.func131, Tryz.ntmps131
    go_wp2
    go_ret
    exact ⟨ret_int HV.out.symm, rfl⟩

theorem take_snoc (s : ByteArray) (k : Nat) (h : k < s.size) : s.data.toList.take (k + 1) = s.data.toList.take k ++ [s[k]] := by
  rw [List.take_succ_eq_append_getElem (by simpa using h)]; rfl

set_option maxHeartbeats 400000 in
theorem allDigits_any (s : ByteArray) (w : World) (hs : s.size ≤ 9223372036854775807) :
    Calls Tryz.prog 111 #[.string s] w fun e w' => e = .returned (.bool (Fx.allDig s.data.toList)) ∧ w = w' := by
  go_enter Tryz.func111, Tryz.ntmps111
  go_wp2
  go_loop [6] (fun i => ∃ k : Nat, k ≤ s.size ∧ i = .int .i64 k ∧ Hid (Fx.allDig (s.data.toList.take k) = true)) (fun i => s.size - (intOf i).toNat)
  case atStart => exact ⟨0, Nat.zero_le _, rfl, Lib.hid rfl⟩
  case round =>
    obtain ⟨k, hk, rfl, hd⟩ := hrel
    by_cases hlt : k < s.size
    · have HE := Lib.hid (take_snoc s k hlt)
      have HM := Lib.hid (show s[k] ∈ s.data.toList from List.getElem_mem (l := s.data.toList) (by simpa using hlt))
      by_cases h1 : (s[k].toNat : Int) < 48
      · have HN := Lib.hid (show Fx.isDig s[k] = false by rw [Bool.eq_false_iff, Ne, Fx.isDig_iff]; omega)
        go_wp2
        go_ret
        exact ⟨ret_bool (Fx.allDig_no HM.out HN.out).symm, rfl⟩
      · by_cases h2 : 57 < (s[k].toNat : Int)
        · have HN := Lib.hid (show Fx.isDig s[k] = false by rw [Bool.eq_false_iff, Ne, Fx.isDig_iff]; omega)
          go_wp2
          go_ret
          exact ⟨ret_bool (Fx.allDig_no HM.out HN.out).symm, rfl⟩
        · have HN := Lib.hid (show Fx.isDig s[k] = true by rw [Fx.isDig_iff]; omega)
          go_wp2
          go_round
          case rel => exact ⟨k + 1, by omega, by go_num, Lib.hid (by rw [HE.out]; exact Fx.allDig_snoc hd.out HN.out)⟩
          case measure => simp [intOf]; omega
    · go_wp2
      go_ret
      refine ⟨ret_bool ?_, rfl⟩
      have := hd.out
      rw [List.take_of_length_le (by simp; omega)] at this
      exact this.symm

set_option maxHeartbeats 400000 in
theorem thousandths_any (s p : ByteArray) (w : World) (hs : s.size ≤ 9223372036854775807) (hd : Fx.allDig s.data.toList = true) (hp : Fx.allDig p.data.toList = true) :
    Calls Tryz.prog 112 #[.string s, .string p] w fun e w' => e = .returned (.int .i64 (Fx.thou s.data.toList p.data.toList)) ∧ w = w' := by
  have HD := Lib.hid hd
  have HP := Lib.hid hp
  clear hd hp
  go_enter Tryz.func112, Tryz.ntmps112
  go_wp2
  go_loop [5, 10] (fun n i => ∃ k : Nat, k ≤ s.size ∧ i = .int .i64 k ∧ n = .int .i64 (Fx.grownAll 0 (s.data.toList.take k))) (fun _ i => s.size - (intOf i).toNat)
  case atStart => exact ⟨0, Nat.zero_le _, rfl, rfl⟩
  case round =>
    obtain ⟨k, hk, rfl, rfl⟩ := hrel
    obtain ⟨b0, b1⟩ := Fx.grownAll_bd (Fx.allDig_take HD.out k) (n := 0) (by omega) (by omega)
    by_cases hlt : k < s.size
    · have HE := Lib.hid (show Fx.grownAll 0 (s.data.toList.take (k + 1)) = Fx.grown (Fx.grownAll 0 (s.data.toList.take k)) s[k].toNat by
        rw [take_snoc s k hlt, Fx.grownAll_snoc])
      obtain ⟨c0, c1⟩ := Fx.isDig_iff.1 (Fx.allDig_mem HD.out (show s[k] ∈ s.data.toList from List.getElem_mem (l := s.data.toList) (by simpa using hlt)))
      generalize Fx.grownAll 0 (s.data.toList.take k) = n at *
      go_wp2_with (go_at_call 130; refine (grown_any _ _ _ (by omega) (by omega) (by omega) (by omega)).mono ?_; rintro e w' ⟨rfl, rfl⟩)
      go_round
      case rel => exact ⟨k + 1, by omega, by go_num, by rw [HE.out]⟩
      case measure => simp [intOf]; omega
    · have HE := Lib.hid (show Fx.grownAll 0 (s.data.toList.take k) = Fx.thou3 s.data.toList p.data.toList 0 by
        rw [List.take_of_length_le (by simp; omega)]; rfl)
      go_wp2
      rw [HE.out]
      clear b0 b1
      go_loop [5, 19] (fun n i => ∃ k : Nat, k ≤ 3 ∧ i = .int .i64 k ∧ n = .int .i64 (Fx.thou3 s.data.toList p.data.toList k)) (fun _ i => 3 - (intOf i).toNat)
      case atStart => exact ⟨0, by omega, rfl, rfl⟩
      case round =>
        obtain ⟨j, hj, rfl, rfl⟩ := hrel
        obtain ⟨b0, b1⟩ := Fx.thou3_bd HD.out HP.out j
        obtain ⟨d0, d1⟩ := Fx.dAt_dig HP.out j
        by_cases h3 : j < 3
        · have HF := Lib.hid (show Fx.thou3 s.data.toList p.data.toList (j + 1) = Fx.grown (Fx.thou3 s.data.toList p.data.toList j) (Fx.dAt p.data.toList j) from rfl)
          generalize Fx.thou3 s.data.toList p.data.toList j = n at *
          go_wp2_with (first | (go_at_call 130; refine (grown_any _ _ _ (by omega) (by omega) (by omega) (by omega)).mono ?_; rintro e w' ⟨rfl, rfl⟩) | (go_at_call 131; refine (digitAt_any _ _ _).mono ?_; rintro e w' ⟨rfl, rfl⟩))
          go_round
          case rel => exact ⟨j + 1, by omega, by go_num, by rw [HF.out]⟩
          case measure => simp [intOf]; omega
        · obtain rfl : j = 3 := by omega
          obtain ⟨e0, e1⟩ := Fx.dAt_dig HP.out 3
          by_cases h5 : 53 ≤ Fx.dAt p.data.toList 3
          · have HF := Lib.hid (show Fx.thou s.data.toList p.data.toList = Fx.thou3 s.data.toList p.data.toList 3 + 1 from if_pos h5)
            generalize Fx.thou3 s.data.toList p.data.toList 3 = n at *
            go_wp2_with (go_at_call 131; refine (digitAt_any _ 3 _).mono ?_; rintro e w' ⟨rfl, rfl⟩)
            go_ret
            exact ⟨ret_int HF.out.symm, rfl⟩
          · have HF := Lib.hid (show Fx.thou s.data.toList p.data.toList = Fx.thou3 s.data.toList p.data.toList 3 from if_neg h5)
            generalize Fx.thou3 s.data.toList p.data.toList 3 = n at *
            go_wp2_with (go_at_call 131; refine (digitAt_any _ 3 _).mono ?_; rintro e w' ⟨rfl, rfl⟩)
            go_ret
            exact ⟨ret_int HF.out.symm, rfl⟩

theorem ret_sign {a b : Bool} {c d : ByteArray} (h : a = b) (h' : c = d) : Ending.returned (.tuple #[.bool a, .string c]) = .returned (.tuple #[.bool b, .string d]) := by rw [h, h']

set_option maxHeartbeats 400000 in
theorem cutSign_nil (w : World) :
    Calls Tryz.prog 109 #[.string ⟨#[]⟩] w fun e w' => e = .returned (.tuple #[.bool false, .string ⟨#[]⟩]) ∧ ∃ k, w' = w.drewN k := by
  go_enter Tryz.func109, Tryz.ntmps109
  go_wp2
  go_ret2
  exact ⟨rfl, 0, rfl⟩

theorem behind_one (c : UInt8) (r : List UInt8) : (⟨(c :: r).toArray⟩ : ByteArray).extract 1 (r.length + 1) = ⟨r.toArray⟩ := by
  apply ByteArray.ext
  rw [ByteArray.data_extract]
  simp

set_option maxHeartbeats 400000 in
theorem cutSign_cons (c : UInt8) (r : List UInt8) (w : World) :
    Calls Tryz.prog 109 #[.string ⟨(c :: r).toArray⟩] w fun e w' => e = .returned (.tuple #[.bool (Fx.signOf (c :: r)), .string ⟨(Fx.behindSign (c :: r)).toArray⟩]) ∧ ∃ k, w' = w.drewN k := by
  have hz : 0 < (⟨(c :: r).toArray⟩ : ByteArray).size := Nat.succ_pos _
  have e0 : (⟨(c :: r).toArray⟩ : ByteArray)[0] = c := rfl
  have HB := Lib.hid (behind_one c r)
  by_cases hp : c.toNat = 43
  · have HS := Lib.hid (Fx.sign_plus hp r)
    have e1 : (((⟨(c :: r).toArray⟩ : ByteArray)[0].toNat : Int) == 43) = true := by rw [e0]; rw [beq_iff_eq]; omega
    have e2 : (((⟨(c :: r).toArray⟩ : ByteArray)[0].toNat : Int) == 45) = false := by rw [e0]; rw [beq_eq_false_iff_ne]; omega
    clear e0
    go_enter Tryz.func109, Tryz.ntmps109
    go_wp2
    go_quiet (fail)
    go_wp2
    go_ret2
    exact ⟨ret_sign HS.out.1.symm (by rw [HS.out.2]; exact HB.out), _, rfl⟩
  by_cases hm : c.toNat = 45
  · have HS := Lib.hid (Fx.sign_minus hm r)
    have e1 : (((⟨(c :: r).toArray⟩ : ByteArray)[0].toNat : Int) == 43) = false := by rw [e0]; rw [beq_eq_false_iff_ne]; omega
    have e2 : (((⟨(c :: r).toArray⟩ : ByteArray)[0].toNat : Int) == 45) = true := by rw [e0]; rw [beq_iff_eq]; omega
    clear e0
    go_enter Tryz.func109, Tryz.ntmps109
    go_wp2
    go_quiet (fail)
    go_wp2
    go_ret2
    exact ⟨ret_sign HS.out.1.symm (by rw [HS.out.2]; exact HB.out), _, rfl⟩
  · have HS := Lib.hid (Fx.sign_none hp hm r)
    have e1 : (((⟨(c :: r).toArray⟩ : ByteArray)[0].toNat : Int) == 43) = false := by rw [e0]; rw [beq_eq_false_iff_ne]; omega
    have e2 : (((⟨(c :: r).toArray⟩ : ByteArray)[0].toNat : Int) == 45) = false := by rw [e0]; rw [beq_eq_false_iff_ne]; omega
    clear e0
    go_enter Tryz.func109, Tryz.ntmps109
    go_wp2
    go_ret2
    exact ⟨ret_sign HS.out.1.symm (by rw [HS.out.2]), 0, rfl⟩

end Go.Proofs.YtkpagahnmbchjaaGreatDoor

namespace Go.Proofs.YtkpagahnmbchjaaGreatDoor
open Go.RowKit

theorem cutSign_any (l : List UInt8) (w : World) :
    Calls Tryz.prog 109 #[.string ⟨l.toArray⟩] w fun e w' => e = .returned (.tuple #[.bool (Fx.signOf l), .string ⟨(Fx.behindSign l).toArray⟩]) ∧ ∃ k, w' = w.drewN k := by
  cases l with
  | nil => exact cutSign_nil w
  | cons c r => exact cutSign_cons c r w

theorem Cut_any (d : List UInt8) (w : World) (hd : d.length ≤ 4000000000) (hf : HasMax w) :
    Calls Tryz.prog 110 #[.string ⟨d.toArray⟩, .string ⟨#[46]⟩] w fun e w' => e = .returned (.tuple #[.string ⟨(Fx.wholeOf d).toArray⟩, .string ⟨(Fx.partOf d).toArray⟩, .bool (Fx.pointIn d)]) ∧ ∃ k, w' = w.drewN k := by
  obtain ⟨m, hm⟩ := hf
  exact Tryz.strings_Cut ⟨d.toArray⟩ ⟨#[46]⟩ m w (show d.toArray.size < _ by simp; omega) hm

theorem allDigits_list (l : List UInt8) (w : World) (hl : l.length ≤ 9223372036854775807) :
    Calls Tryz.prog 111 #[.string ⟨l.toArray⟩] w fun e w' => e = .returned (.bool (Fx.allDig l)) ∧ w = w' :=
  allDigits_any ⟨l.toArray⟩ w (show l.toArray.size ≤ _ by simpa using hl)
theorem thousandths_list (l p : List UInt8) (w : World) (hl : l.length ≤ 9223372036854775807) (hd : Fx.allDig l = true) (hp : Fx.allDig p = true) :
    Calls Tryz.prog 112 #[.string ⟨l.toArray⟩, .string ⟨p.toArray⟩] w fun e w' => e = .returned (.int .i64 (Fx.thou l p)) ∧ w = w' :=
  thousandths_any ⟨l.toArray⟩ ⟨p.toArray⟩ w (show l.toArray.size ≤ _ by simpa using hl) hd hp

set_option maxHeartbeats 400000 in
theorem Parse_long (l : List UInt8) (w : World) (hl : 400 < l.length) (hl' : l.length ≤ 9223372036854775807) :
    Calls Tryz.prog 95 #[.string ⟨l.toArray⟩] w fun e w' => e = .returned (.tuple #[.int .i64 (Fx.parseV l), .int .i64 (Fx.parseE l)]) ∧ Kept w w' := by
  have HP := Lib.hid (Fx.parse_long hl)
  go_enter Tryz.func95, Tryz.ntmps95
  go_wp2
  go_ret2
  exact ⟨ret_ints HP.out.1.symm HP.out.2.symm, Kept.refl _⟩

set_option maxHeartbeats 1000000 in
theorem Parse_short (l : List UInt8) (w : World) (hl : l.length ≤ 400) (hf : HasMax w) :
    Calls Tryz.prog 95 #[.string ⟨l.toArray⟩] w fun e w' => e = .returned (.tuple #[.int .i64 (Fx.parseV l), .int .i64 (Fx.parseE l)]) ∧ Kept w w' := by
  have hb := Fx.behindSign_le l
  have hw := Fx.wholeOf_le (Fx.behindSign l)
  have hp := Fx.partOf_le (Fx.behindSign l)
  by_cases hz0 : (Fx.wholeOf (Fx.behindSign l)).length + (Fx.partOf (Fx.behindSign l)).length = 0
  · have HP := Lib.hid (Fx.parse_form (l := l) (by omega) (Fx.form_zero hz0))
    have hz : (((Fx.wholeOf (Fx.behindSign l)).length : Int) + ((Fx.partOf (Fx.behindSign l)).length : Int) == 0) = true := by rw [beq_iff_eq]; omega
    clear hz0
    go_enter Tryz.func95, Tryz.ntmps95
    go_wp2_with (first | (go_at_call 109; refine (cutSign_any _ _).mono ?_; rintro e w' ⟨rfl, k1, rfl⟩) | (go_at_call 110; refine (Cut_any _ _ (by omega) (hf.kept ((Kept.refl _).drewN _))).mono ?_; rintro e w' ⟨rfl, k2, rfl⟩))
    go_ret2
    exact ⟨ret_ints HP.out.1.symm HP.out.2.symm, (Kept.refl _).drewN _⟩
  have hz : (((Fx.wholeOf (Fx.behindSign l)).length : Int) + ((Fx.partOf (Fx.behindSign l)).length : Int) == 0) = false := by rw [beq_eq_false_iff_ne]; omega
  cases h1 : Fx.allDig (Fx.wholeOf (Fx.behindSign l))
  · have HP := Lib.hid (Fx.parse_form (l := l) (by omega) (Fx.form_whole h1))
    clear hz0
    go_enter Tryz.func95, Tryz.ntmps95
    go_wp2_with (first | (go_at_call 109; refine (cutSign_any _ _).mono ?_; rintro e w' ⟨rfl, k1, rfl⟩) | (go_at_call 110; refine (Cut_any _ _ (by omega) (hf.kept ((Kept.refl _).drewN _))).mono ?_; rintro e w' ⟨rfl, k2, rfl⟩) | (go_at_call 111; refine (allDigits_list _ _ (by omega)).mono ?_; rintro e w' ⟨rfl, rfl⟩))
    go_ret2
    exact ⟨ret_ints HP.out.1.symm HP.out.2.symm, (Kept.refl _).drewN _⟩
  cases h2 : Fx.allDig (Fx.partOf (Fx.behindSign l))
  · have HP := Lib.hid (Fx.parse_form (l := l) (by omega) (Fx.form_part h2))
    clear hz0
    go_enter Tryz.func95, Tryz.ntmps95
    go_wp2_with (first | (go_at_call 109; refine (cutSign_any _ _).mono ?_; rintro e w' ⟨rfl, k1, rfl⟩) | (go_at_call 110; refine (Cut_any _ _ (by omega) (hf.kept ((Kept.refl _).drewN _))).mono ?_; rintro e w' ⟨rfl, k2, rfl⟩) | (go_at_call 111; refine (allDigits_list _ _ (by omega)).mono ?_; rintro e w' ⟨rfl, rfl⟩))
    go_ret2
    exact ⟨ret_ints HP.out.1.symm HP.out.2.symm, (Kept.refl _).drewN _⟩
  have HP := Lib.hid (Fx.parse_num (l := l) (by omega) (Fx.form_yes hz0 h1 h2))
  obtain ⟨n0, n1⟩ := Fx.thou_bd h1 h2
  cases hs : Fx.signOf l
  · have HN := Lib.hid (show Fx.numOf l = Fx.thou (Fx.wholeOf (Fx.behindSign l)) (Fx.partOf (Fx.behindSign l)) from if_neg (by rw [hs]; simp))
    clear hz0
    go_enter Tryz.func95, Tryz.ntmps95
    go_wp2_with (first | (go_at_call 109; refine (cutSign_any _ _).mono ?_; rintro e w' ⟨rfl, k1, rfl⟩) | (go_at_call 110; refine (Cut_any _ _ (by omega) (hf.kept ((Kept.refl _).drewN _))).mono ?_; rintro e w' ⟨rfl, k2, rfl⟩) | (go_at_call 111; refine (allDigits_list _ _ (by omega)).mono ?_; rintro e w' ⟨rfl, rfl⟩) | (go_at_call 112; refine (thousandths_list _ _ _ (by omega) (by assumption) (by assumption)).mono ?_; rintro e w' ⟨rfl, rfl⟩) | (go_at_call 113; refine (checked_any _ _).mono ?_; rintro e w' ⟨rfl, hg⟩))
    go_ret2
    exact ⟨ret_ints (by rw [HP.out.1, HN.out]) (by rw [HP.out.2, HN.out]), Kept.trans ((Kept.refl _).drewN _) hg⟩
  · have HN := Lib.hid (show Fx.numOf l = -(Fx.thou (Fx.wholeOf (Fx.behindSign l)) (Fx.partOf (Fx.behindSign l))) from if_pos hs)
    clear hz0
    go_enter Tryz.func95, Tryz.ntmps95
    go_wp2_with (first | (go_at_call 109; refine (cutSign_any _ _).mono ?_; rintro e w' ⟨rfl, k1, rfl⟩) | (go_at_call 110; refine (Cut_any _ _ (by omega) (hf.kept ((Kept.refl _).drewN _))).mono ?_; rintro e w' ⟨rfl, k2, rfl⟩) | (go_at_call 111; refine (allDigits_list _ _ (by omega)).mono ?_; rintro e w' ⟨rfl, rfl⟩) | (go_at_call 112; refine (thousandths_list _ _ _ (by omega) (by assumption) (by assumption)).mono ?_; rintro e w' ⟨rfl, rfl⟩) | (go_at_call 113; refine (checked_any _ _).mono ?_; rintro e w' ⟨rfl, hg⟩))
    go_ret2
    exact ⟨ret_ints (by rw [HP.out.1, HN.out]) (by rw [HP.out.2, HN.out]), Kept.trans ((Kept.refl _).drewN _) hg⟩

theorem Parse_max (l : List UInt8) (w : World) (hl : l.length ≤ 9223372036854775807) (hf : HasMax w) :
    Calls Tryz.prog 95 #[.string ⟨l.toArray⟩] w fun e w' => e = .returned (.tuple #[.int .i64 (Fx.parseV l), .int .i64 (Fx.parseE l)]) ∧ Kept w w' := by
  by_cases h : 400 < l.length
  · exact Parse_long l w h hl
  · exact Parse_short l w (by omega) hf

theorem Parse_any (l : List UInt8) (w : World) (hl : l.length ≤ 9223372036854775807) (hf : Fine w) :
    Calls Tryz.prog 95 #[.string ⟨l.toArray⟩] w fun e w' => e = .returned (.tuple #[.int .i64 (Fx.parseV l), .int .i64 (Fx.parseE l)]) ∧ Kept w w' :=
  Parse_max l w hl hf.1

end Go.Proofs.YtkpagahnmbchjaaGreatDoor

namespace Go.Proofs.YtkpagahnmbchjaaGreatDoor
open Go.RowKit

end Go.Proofs.YtkpagahnmbchjaaGreatDoor

namespace Go.Proofs.YtkpagahnmbchjaaGreatDoor
open Go.RowKit

theorem Itoa_any (n : Int) (w : World) (h0 : -9223372036854775808 ≤ n) (h1 : n ≤ 9223372036854775807) (hf : Fine w) :
    Calls Tryz.prog 53 #[.int .i64 n] w fun e w' => e = .returned (.string ⟨(Lib.itoa n).toArray⟩) ∧ Kept w w' :=
  (Tryz.strconv_Itoa n h0 h1 w hf.2).mono fun _ _ ⟨he, k, os, hw⟩ => ⟨he, by rw [hw]; exact Kept.grow ((Kept.refl _).drewN k) os⟩
theorem Trim_any (s : ByteArray) (w : World) (hs : s.size ≤ 9223372036854775807) :
    Calls Tryz.prog 105 #[.string s, .string ⟨#[48]⟩] w fun e w' => e = .returned (.string ⟨(Lib.trimRightB s.data.toList 48).toArray⟩) ∧ w = w' :=
  (Tryz.strings_TrimRight_one s 48 (by decide) w hs).mono fun _ _ ⟨he, hw⟩ => ⟨he, hw.symm⟩

theorem ret_str {a b : ByteArray} (h : a = b) : Ending.returned (.string a) = .returned (.string b) := by rw [h]
theorem bytes_drop (t : List UInt8) (k : Nat) : (⟨t.toArray⟩ : ByteArray).extract k t.length = ⟨(t.drop k).toArray⟩ := by
  apply ByteArray.ext
  rw [ByteArray.data_extract]
  simp only [List.extract_toArray, List.extract_eq_take_drop]
  rw [List.take_of_length_le (by simp)]
theorem bytes_cons (c : UInt8) (l : List UInt8) : (⟨#[c]⟩ : ByteArray) ++ ⟨l.toArray⟩ = ⟨(c :: l).toArray⟩ := by
  apply ByteArray.ext
  rw [ByteArray.data_append]
  simp
theorem bytes_append (a b : List UInt8) : (⟨a.toArray⟩ : ByteArray) ++ ⟨b.toArray⟩ = ⟨(a ++ b).toArray⟩ := by
  apply ByteArray.ext
  rw [ByteArray.data_append]
  simp

theorem Trim_drop (t : List UInt8) (w : World) (ht : t.length ≤ 9223372036854775807) :
    Calls Tryz.prog 105 #[.string ((⟨t.toArray⟩ : ByteArray).extract 1 t.length), .string ⟨#[48]⟩] w fun e w' => e = .returned (.string ⟨(Fx.trimT t).toArray⟩) ∧ w = w' := by
  rw [bytes_drop]
  exact Trim_any ⟨(t.drop 1).toArray⟩ w (show (t.drop 1).toArray.size ≤ _ by simp; omega)

set_option maxHeartbeats 400000 in
theorem partText_any (n : Int) (w : World) (h0 : 0 ≤ n) (h1 : n ≤ 999) (hf : Fine w) :
    Calls Tryz.prog 82 #[.int .i64 n] w fun e w' => e = .returned (.string ⟨(Fx.partT n).toArray⟩) ∧ Kept w w' := by
  by_cases hz : n = 0
  · have HP := Lib.hid (show Fx.partT n = [] from if_pos hz)
    have hz' : (n == 0) = true := by simpa using hz
    clear hz
    go_enter Tryz.func82, Tryz.ntmps82
    go_wp2
    go_ret
    exact ⟨ret_str (by rw [HP.out]), Kept.refl _⟩
  · have HP := Lib.hid (show Fx.partT n = 46 :: Fx.trimT (Lib.itoa (1000 + n)) from if_neg hz)
    have hz' : (n == 0) = false := by simpa using hz
    clear hz
    obtain ⟨l0, l1⟩ := Fx.itoa_len (n := 1000 + n) (by omega) (by omega)
    have l2 := Fx.trimT_len (Lib.itoa (1000 + n)) l0
    go_enter Tryz.func82, Tryz.ntmps82
    go_wp2_with (first | (go_at_call 53; refine (Itoa_any _ _ (by omega) (by omega) hf).mono ?_; rintro e w' ⟨rfl, hk⟩) | (go_at_call 105; refine (Trim_drop _ _ (by omega)).mono ?_; rintro e w' ⟨rfl, rfl⟩))
    go_ret
    refine ⟨ret_str ?_, hk⟩
    rw [HP.out]
    exact bytes_cons _ _

set_option maxHeartbeats 400000 in
theorem Print_minus (g : Int) (w : World) (hf : Fine w) (h : Fx.saneB (-g) = true) (hg : 0 < g) :
    Calls Tryz.prog 54 #[.int .i64 (-g)] w fun e w' => e = .returned (.string ⟨(Fx.printL (-g)).toArray⟩) ∧ Kept w w' := by
  have a0 := Fx.sane_lo h
  have HP := Lib.hid (Fx.print_minus h hg)
  obtain ⟨l0, l1⟩ := Fx.itoa_len (n := g / 1000) (by omega) (by omega)
  have l2 := Fx.part_len (n := g % 1000) (by omega) (by omega)
  go_enter Tryz.func54, Tryz.ntmps54
  go_wp2_with (first | (go_at_call 81; refine (sane_new1 _ _).mono ?_; rintro e w' ⟨rfl, rfl⟩) | (go_at_call 53; refine (Itoa_any _ _ (by omega) (by omega) (hf.kept ((Kept.refl _).alloc _ _))).mono ?_; rintro e w' ⟨rfl, hk⟩) | (go_at_call 82; refine (partText_any _ _ (by omega) (by omega) ((hf.kept ((Kept.refl _).alloc _ _)).kept hk)).mono ?_; rintro e w' ⟨rfl, hk'⟩))
  go_ret
  refine ⟨ret_str ?_, Kept.trans (Kept.trans ((Kept.refl _).alloc _ _) hk) hk'⟩
  rw [HP.out]
  rw [bytes_cons, bytes_append]
  rfl

set_option maxHeartbeats 400000 in
theorem Print_plus (f : Int) (w : World) (hf : Fine w) (h : Fx.saneB f = true) (hn : 0 ≤ f) :
    Calls Tryz.prog 54 #[.int .i64 f] w fun e w' => e = .returned (.string ⟨(Fx.printL f).toArray⟩) ∧ Kept w w' := by
  have a1 := Fx.sane_hi h
  have HP := Lib.hid (Fx.print_plus h (by omega))
  obtain ⟨l0, l1⟩ := Fx.itoa_len (n := f / 1000) (by omega) (by omega)
  have l2 := Fx.part_len (n := f % 1000) (by omega) (by omega)
  go_enter Tryz.func54, Tryz.ntmps54
  go_wp2_with (first | (go_at_call 81; refine (sane_new1 _ _).mono ?_; rintro e w' ⟨rfl, rfl⟩) | (go_at_call 53; refine (Itoa_any _ _ (by omega) (by omega) (hf.kept ((Kept.refl _).alloc _ _))).mono ?_; rintro e w' ⟨rfl, hk⟩) | (go_at_call 82; refine (partText_any _ _ (by omega) (by omega) ((hf.kept ((Kept.refl _).alloc _ _)).kept hk)).mono ?_; rintro e w' ⟨rfl, hk'⟩))
  go_ret
  refine ⟨ret_str ?_, Kept.trans (Kept.trans ((Kept.refl _).alloc _ _) hk) hk'⟩
  rw [HP.out]
  rw [show (⟨#[]⟩ : ByteArray) = ⟨([] : List UInt8).toArray⟩ from rfl, bytes_append, bytes_append]
  rfl

set_option maxHeartbeats 400000 in
theorem Print_none (f : Int) (w : World) (h : Fx.saneB f = false) :
    Calls Tryz.prog 54 #[.int .i64 f] w fun e w' => e = .returned (.string ⟨(Fx.printL f).toArray⟩) ∧ Kept w w' := by
  have HP := Lib.hid (Fx.print_none h)
  go_enter Tryz.func54, Tryz.ntmps54
  go_wp2_with (go_at_call 81; refine (sane_new1 _ _).mono ?_; rintro e w' ⟨rfl, rfl⟩)
  go_ret
  exact ⟨ret_str (by rw [HP.out]), (Kept.refl _).alloc _ _⟩

theorem Print_any (f : Int) (w : World) (hf : Fine w) :
    Calls Tryz.prog 54 #[.int .i64 f] w fun e w' => e = .returned (.string ⟨(Fx.printL f).toArray⟩) ∧ Kept w w' := by
  cases h : Fx.saneB f
  · exact Print_none f w h
  · by_cases hn : f < 0
    · have := Print_minus (-f) w hf (by rw [Int.neg_neg]; exact h) (by omega)
      rwa [Int.neg_neg] at this
    · exact Print_plus f w hf h (by omega)

end Go.Proofs.YtkpagahnmbchjaaGreatDoor
