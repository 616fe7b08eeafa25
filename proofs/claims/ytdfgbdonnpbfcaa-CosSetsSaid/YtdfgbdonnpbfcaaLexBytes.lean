/-
  What package lex's questions on one byte answer; none of them turns anything.
-/
import Derived.Test.YtdfgbdonnpbfcaaBase
import Derived.Test.YtdfgbdonnpbfcaaFixAll
import Derived.Test.YtdfgbdonnpbfcaaLexMath
import Derived.Test.YtdfgbdonnpbfcaaShelf
namespace Go.Proofs.Ytdfgbdonnpbfcaa
open Go.RowKit

theorem IndexByte_at (l : List UInt8) (c : UInt8) (w : World) :
    Calls Try.prog 70 #[.string ⟨l.toArray⟩, .int .u8 (c.toNat : Int)] w fun e w' => e = .returned (.int .i64 (Lib.indexByte l c)) ∧ w = w' :=
  (Try.strings_IndexByte ⟨l.toArray⟩ (c.toNat : Int) w).mono fun e w' ⟨he, hw⟩ => ⟨by rw [he]; simp, hw.symm⟩

theorem white_index (c : UInt8) : decide (0 ≤ Lib.indexByte [0, 9, 10, 12, 13, 32] c) = Lx.white c := by
  have := Lx.byte_all (fun c => decide (0 ≤ Lib.indexByte [0, 9, 10, 12, 13, 32] c) == Lx.white c) (by kernel_rfl) c
  simpa using this
theorem delim_index (c : UInt8) : decide (0 ≤ Lib.indexByte [40, 41, 60, 62, 91, 93, 123, 125, 47, 37] c) = Lx.delim c := by
  have := Lx.byte_all (fun c => decide (0 ≤ Lib.indexByte [40, 41, 60, 62, 91, 93, 123, 125, 47, 37] c) == Lx.delim c) (by kernel_rfl) c
  simpa using this

theorem White_any (c : UInt8) (w : World) :
    Calls Try.prog 58 #[.int .u8 (c.toNat : Int)] w fun e w' => e = .returned (.bool (Lx.white c)) ∧ w = w' := by
  have H := Lib.hid (white_index c)
  go_enter Try.func58, Try.ntmps58
  go_wp2_with (go_at_call 70; refine (IndexByte_at [0, 9, 10, 12, 13, 32] c _).mono ?_; rintro e w' ⟨rfl, rfl⟩)
  go_ret
  exact ⟨ret_bool H.out, rfl⟩
theorem Delim_any (c : UInt8) (w : World) :
    Calls Try.prog 71 #[.int .u8 (c.toNat : Int)] w fun e w' => e = .returned (.bool (Lx.delim c)) ∧ w = w' := by
  have H := Lib.hid (delim_index c)
  go_enter Try.func71, Try.ntmps71
  go_wp2_with (go_at_call 70; refine (IndexByte_at [40, 41, 60, 62, 91, 93, 123, 125, 47, 37] c _).mono ?_; rintro e w' ⟨rfl, rfl⟩)
  go_ret
  exact ⟨ret_bool H.out, rfl⟩

theorem regular_any (c : UInt8) (w : World) :
    Calls Try.prog 63 #[.int .u8 (c.toNat : Int)] w fun e w' => e = .returned (.bool (Lx.reg c)) ∧ w = w' := by
  have H := Lib.hid (show Lx.reg c = (!Lx.white c && !Lx.delim c) from rfl)
  cases h : Lx.white c
  · have H1 := Lib.hid (show Lx.reg c = !Lx.delim c by rw [H.out, h]; rfl)
    clear H
    go_enter Try.func63, Try.ntmps63
    go_wp2_with (first | (go_at_call 58; refine (White_any c _).mono ?_; rintro e w' ⟨rfl, rfl⟩) | (go_at_call 71; refine (Delim_any c _).mono ?_; rintro e w' ⟨rfl, rfl⟩))
    go_ret
    exact ⟨ret_bool H1.out.symm, rfl⟩
  · have H1 := Lib.hid (show Lx.reg c = false by rw [H.out, h]; rfl)
    clear H
    go_enter Try.func63, Try.ntmps63
    go_wp2_with (first | (go_at_call 58; refine (White_any c _).mono ?_; rintro e w' ⟨rfl, rfl⟩) | (go_at_call 71; refine (Delim_any c _).mono ?_; rintro e w' ⟨rfl, rfl⟩))
    go_ret
    exact ⟨ret_bool H1.out.symm, rfl⟩

theorem blank_any (c : UInt8) (w : World) :
    Calls Try.prog 44 #[.int .u8 (c.toNat : Int)] w fun e w' => e = .returned (.bool (Lx.blank c)) ∧ w = w' := by
  have H := Lib.hid (show Lx.blank c = (Lx.white c || c == 37) from rfl)
  cases h : Lx.white c
  · have HC : (((c.toNat : Int)) == 37) = (c == 37) := by
      have := Lx.byte_all (fun c => (((c.toNat : Int)) == 37) == (c == 37)) (by kernel_rfl) c
      simpa using this
    have H1 := Lib.hid (show Lx.blank c = (((c.toNat : Int)) == 37) by rw [H.out, h, HC]; rfl)
    clear H HC
    go_enter Try.func44, Try.ntmps44
    go_wp2_with (go_at_call 58; refine (White_any c _).mono ?_; rintro e w' ⟨rfl, rfl⟩)
    go_ret
    exact ⟨ret_bool H1.out.symm, rfl⟩
  · have H1 := Lib.hid (show Lx.blank c = true by rw [H.out, h]; rfl)
    clear H
    go_enter Try.func44, Try.ntmps44
    go_wp2_with (go_at_call 58; refine (White_any c _).mono ?_; rintro e w' ⟨rfl, rfl⟩)
    go_ret
    exact ⟨ret_bool H1.out.symm, rfl⟩

/-- Two tests on a byte, in the walk's spelling. -/
theorem inLine_any (c : UInt8) (w : World) :
    Calls Try.prog 46 #[.int .u8 (c.toNat : Int)] w fun e w' => e = .returned (.bool (Lx.inLine c)) ∧ w = w' := by
  have H := Lib.hid (show Lx.inLine c = (((c.toNat : Int) != 10) && ((c.toNat : Int) != 13)) by
    have := Lx.byte_all (fun c => Lx.inLine c == (((c.toNat : Int) != 10) && ((c.toNat : Int) != 13))) (by kernel_rfl) c
    simpa using this)
  cases h : ((c.toNat : Int) != 10)
  · have H1 := Lib.hid (show Lx.inLine c = false by rw [H.out, h]; rfl)
    clear H
    go_enter Try.func46, Try.ntmps46
    go_wp2
    go_ret
    exact ⟨ret_bool H1.out.symm, rfl⟩
  · have H1 := Lib.hid (show Lx.inLine c = ((c.toNat : Int) != 13) by rw [H.out, h]; rfl)
    clear H
    go_enter Try.func46, Try.ntmps46
    go_wp2
    go_ret
    exact ⟨ret_bool H1.out.symm, rfl⟩

theorem isDigit8_any (c : UInt8) (w : World) :
    Calls Try.prog 73 #[.int .u8 (c.toNat : Int)] w fun e w' => e = .returned (.bool (Lx.isOct c)) ∧ w = w' := by
  by_cases h : 48 ≤ c.toNat
  · by_cases h2 : c.toNat ≤ 55
    · have H1 := Lib.hid (show Lx.isOct c = true by simp [Lx.isOct, h, h2])
      go_enter Try.func73, Try.ntmps73
      go_wp2
      go_ret
      exact ⟨ret_bool (by rw [H1.out] <;> first | rfl | (simp; done) | (simp; omega)), rfl⟩
    · have H1 := Lib.hid (show Lx.isOct c = false by simp [Lx.isOct, h2])
      have h3 : 55 < c.toNat := by omega
      clear h2
      go_enter Try.func73, Try.ntmps73
      go_wp2
      go_ret
      exact ⟨ret_bool (by rw [H1.out] <;> first | rfl | (simp; done) | (simp; omega)), rfl⟩
  · have H1 := Lib.hid (show Lx.isOct c = false by simp [Lx.isOct, h])
    have h3 : c.toNat < 48 := by omega
    clear h
    go_enter Try.func73, Try.ntmps73
    go_wp2
    go_ret
    exact ⟨ret_bool (by rw [H1.out] <;> first | rfl | (simp; done) | (simp; omega)), rfl⟩

theorem anyByte_any (c : UInt8) (w : World) :
    Calls Try.prog 60 #[.int .u8 (c.toNat : Int)] w fun e w' => e = .returned (.bool true) ∧ w = w' := by
  go_enter Try.func60, Try.ntmps60
  go_wp2
  go_ret
  exact ⟨rfl, rfl⟩

/-- The ways of isDigit16 and digit16, by where a byte lies. -/
theorem isDigit16_any (c : UInt8) (w : World) :
    Calls Try.prog 61 #[.int .u8 (c.toNat : Int)] w fun e w' => e = .returned (.bool (Lx.isHex c)) ∧ w = w' := by
  rcases (show c.toNat < 48 ∨ (48 ≤ c.toNat ∧ c.toNat ≤ 57) ∨ (57 < c.toNat ∧ c.toNat < 65) ∨ (65 ≤ c.toNat ∧ c.toNat ≤ 70) ∨ (70 < c.toNat ∧ c.toNat < 97) ∨ (97 ≤ c.toNat ∧ c.toNat ≤ 102) ∨ 102 < c.toNat by omega) with h | ⟨h, h2⟩ | ⟨h, h2⟩ | ⟨h, h2⟩ | ⟨h, h2⟩ | ⟨h, h2⟩ | h
  all_goals
    first
      | have H1 := Lib.hid (show Lx.isHex c = true by simp [Lx.isHex]; omega)
      | have H1 := Lib.hid (show Lx.isHex c = false by simp [Lx.isHex]; omega)
    go_enter Try.func61, Try.ntmps61
    go_wp2
    go_ret
    exact ⟨ret_bool (by rw [H1.out] <;> first | rfl | (simp; done) | (simp; omega)), rfl⟩

theorem digit16_any (c : UInt8) (w : World) (hc : Lx.isHex c = true) :
    Calls Try.prog 62 #[.int .u8 (c.toNat : Int)] w fun e w' => e = .returned (.int .u8 ((Lx.hexV c).toNat : Int)) ∧ w = w' := by
  have hh : (48 ≤ c.toNat ∧ c.toNat ≤ 57) ∨ (65 ≤ c.toNat ∧ c.toNat ≤ 70) ∨ (97 ≤ c.toNat ∧ c.toNat ≤ 102) := by
    simp [Lx.isHex] at hc; omega
  clear hc
  rcases hh with ⟨h, h2⟩ | ⟨h, h2⟩ | ⟨h, h2⟩
  · have H1 := Lib.hid (show ((Lx.hexV c).toNat : Int) = (c.toNat : Int) - 48 by
      rw [Lx.hexV, if_neg (by omega), if_neg (by omega), UInt8.toNat_sub_of_le _ _ (by rw [UInt8.le_iff_toNat_le]; exact h)]
      show ((c.toNat - 48 : Nat) : Int) = _; omega)
    go_enter Try.func62, Try.ntmps62
    go_wp2
    go_ret
    exact ⟨ret_int H1.out.symm, rfl⟩
  · have H1 := Lib.hid (show ((Lx.hexV c).toNat : Int) = (c.toNat : Int) - 65 + 10 by
      rw [Lx.hexV, if_neg (by omega), if_pos (by omega), UInt8.toNat_sub_of_le _ _ (by rw [UInt8.le_iff_toNat_le]; show 55 ≤ _; omega)]
      show ((c.toNat - 55 : Nat) : Int) = _; omega)
    go_enter Try.func62, Try.ntmps62
    go_wp2
    go_ret
    exact ⟨ret_int H1.out.symm, rfl⟩
  · have H1 := Lib.hid (show ((Lx.hexV c).toNat : Int) = (c.toNat : Int) - 97 + 10 by
      rw [Lx.hexV, if_pos (by omega), UInt8.toNat_sub_of_le _ _ (by rw [UInt8.le_iff_toNat_le]; show 87 ≤ _; omega)]
      show ((c.toNat - 87 : Nat) : Int) = _; omega)
    go_enter Try.func62, Try.ntmps62
    go_wp2
    go_ret
    exact ⟨ret_int H1.out.symm, rfl⟩

theorem beginsNumber_any (c : UInt8) (w : World) :
    Calls Try.prog 66 #[.int .u8 (c.toNat : Int)] w fun e w' => e = .returned (.bool (Lx.numB c)) ∧ w = w' := by
  have H := Lib.hid (show Lx.numB c = ((decide (48 ≤ (c.toNat : Int)) && decide ((c.toNat : Int) ≤ 57)) || ((c.toNat : Int) == 43) || ((c.toNat : Int) == 45) || ((c.toNat : Int) == 46)) by
    have := Lx.byte_all (fun c => Lx.numB c == ((decide (48 ≤ (c.toNat : Int)) && decide ((c.toNat : Int) ≤ 57)) || ((c.toNat : Int) == 43) || ((c.toNat : Int) == 45) || ((c.toNat : Int) == 46))) (by kernel_rfl) c
    simpa using this)
  by_cases h : 48 ≤ c.toNat
  · by_cases h2 : c.toNat ≤ 57
    · have H1 := Lib.hid (show Lx.numB c = true by rw [H.out]; simp; omega)
      clear H
      go_enter Try.func66, Try.ntmps66
      go_wp2
      go_ret
      exact ⟨ret_bool (by rw [H1.out] <;> first | rfl | (simp; done) | (simp; omega)), rfl⟩
    · have H1 := Lib.hid (show Lx.numB c = false by rw [H.out]; simp; omega)
      have h3 : 57 < c.toNat := by omega
      clear H h2
      go_enter Try.func66, Try.ntmps66
      go_wp2
      go_ret
      exact ⟨ret_bool (by rw [H1.out] <;> first | rfl | (simp; done) | (simp; omega)), rfl⟩
  · have h3 : c.toNat < 48 := by omega
    clear h
    go_enter Try.func66, Try.ntmps66
    go_wp2
    all_goals
      go_ret
      refine ⟨ret_bool ?_, rfl⟩
      rw [H.out, show decide (48 ≤ (c.toNat : Int)) = false by simp; omega]
      simp [*]

end Go.Proofs.Ytdfgbdonnpbfcaa
