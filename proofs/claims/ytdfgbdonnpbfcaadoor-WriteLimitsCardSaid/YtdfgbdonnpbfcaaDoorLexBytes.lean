/-
  What package lex's questions on one byte answer; none of them turns anything.
-/
import Derived.Test.YtdfgbdonnpbfcaaDoorKept
import Derived.Test.YtdfgbdonnpbfcaaDoorFixWalks
import Derived.Test.YtdfgbdonnpbfcaaDoorLexMath
import Derived.Test.YtdfgbdonnpbfcaaDoorShelf
namespace Go.Proofs.YtdfgbdonnpbfcaaDoor
open Go.RowKit

theorem IndexByte_at (l : List UInt8) (c : UInt8) (w : World) :
    Calls Tryd.prog 70 #[.string ⟨l.toArray⟩, .int .u8 (c.toNat : Int)] w fun e w' => e = .returned (.int .i64 (Lib.indexByte l c)) ∧ w = w' :=
  (Tryd.strings_IndexByte ⟨l.toArray⟩ (c.toNat : Int) w).mono fun e w' ⟨he, hw⟩ => ⟨by rw [he]; simp, hw.symm⟩

theorem white_index (c : UInt8) : decide (0 ≤ Lib.indexByte [0, 9, 10, 12, 13, 32] c) = Lx.white c := by
  have := Lx.byte_all (fun c => decide (0 ≤ Lib.indexByte [0, 9, 10, 12, 13, 32] c) == Lx.white c) (by kernel_rfl) c
  simpa using this
theorem delim_index (c : UInt8) : decide (0 ≤ Lib.indexByte [40, 41, 60, 62, 91, 93, 123, 125, 47, 37] c) = Lx.delim c := by
  have := Lx.byte_all (fun c => decide (0 ≤ Lib.indexByte [40, 41, 60, 62, 91, 93, 123, 125, 47, 37] c) == Lx.delim c) (by kernel_rfl) c
  simpa using this

theorem White_any (c : UInt8) (w : World) :
    Calls Tryd.prog 68 #[.int .u8 (c.toNat : Int)] w fun e w' => e = .returned (.bool (Lx.white c)) ∧ w = w' := by
  have H := Lib.hid (white_index c)
  go_enter Tryd.func68, Tryd.ntmps68
  go_wp2_with (go_at_call 70; refine (IndexByte_at [0, 9, 10, 12, 13, 32] c _).mono ?_; rintro e w' ⟨rfl, rfl⟩)
  go_ret
  exact ⟨ret_bool H.out, rfl⟩
theorem Delim_any (c : UInt8) (w : World) :
    Calls Tryd.prog 69 #[.int .u8 (c.toNat : Int)] w fun e w' => e = .returned (.bool (Lx.delim c)) ∧ w = w' := by
  have H := Lib.hid (delim_index c)
  go_enter Tryd.func69, Tryd.ntmps69
  go_wp2_with (go_at_call 70; refine (IndexByte_at [40, 41, 60, 62, 91, 93, 123, 125, 47, 37] c _).mono ?_; rintro e w' ⟨rfl, rfl⟩)
  go_ret
  exact ⟨ret_bool H.out, rfl⟩

theorem regular_any (c : UInt8) (w : World) :
    Calls Tryd.prog 56 #[.int .u8 (c.toNat : Int)] w fun e w' => e = .returned (.bool (Lx.reg c)) ∧ w = w' := by
  have H := Lib.hid (show Lx.reg c = (!Lx.white c && !Lx.delim c) from rfl)
  cases h : Lx.white c
  · have H1 := Lib.hid (show Lx.reg c = !Lx.delim c by rw [H.out, h]; rfl)
    clear H
    go_enter Tryd.func56, Tryd.ntmps56
    go_wp2_with (first | (go_at_call 68; refine (White_any c _).mono ?_; rintro e w' ⟨rfl, rfl⟩) | (go_at_call 69; refine (Delim_any c _).mono ?_; rintro e w' ⟨rfl, rfl⟩))
    go_ret
    exact ⟨ret_bool H1.out.symm, rfl⟩
  · have H1 := Lib.hid (show Lx.reg c = false by rw [H.out, h]; rfl)
    clear H
    go_enter Tryd.func56, Tryd.ntmps56
    go_wp2_with (first | (go_at_call 68; refine (White_any c _).mono ?_; rintro e w' ⟨rfl, rfl⟩) | (go_at_call 69; refine (Delim_any c _).mono ?_; rintro e w' ⟨rfl, rfl⟩))
    go_ret
    exact ⟨ret_bool H1.out.symm, rfl⟩

theorem printed_any (c : UInt8) (w : World) :
    Calls Tryd.prog 57 #[.int .u8 (c.toNat : Int)] w fun e w' => e = .returned (.bool (Lx.printed c)) ∧ w = w' := by
  by_cases h : 32 ≤ c.toNat
  · by_cases h2 : c.toNat ≤ 126
    · have H1 := Lib.hid (show Lx.printed c = true by simp [Lx.printed, h, h2])
      go_enter Tryd.func57, Tryd.ntmps57
      go_wp2
      go_ret
      exact ⟨ret_bool (by rw [H1.out] <;> first | rfl | (simp; done) | (simp; omega)), rfl⟩
    · have H1 := Lib.hid (show Lx.printed c = false by simp [Lx.printed, h2])
      have h3 : 126 < c.toNat := by omega
      clear h2
      go_enter Tryd.func57, Tryd.ntmps57
      go_wp2
      go_ret
      exact ⟨ret_bool (by rw [H1.out] <;> first | rfl | (simp; done) | (simp; omega)), rfl⟩
  · have H1 := Lib.hid (show Lx.printed c = false by simp [Lx.printed, h])
    have h3 : c.toNat < 32 := by omega
    clear h
    go_enter Tryd.func57, Tryd.ntmps57
    go_wp2
    go_ret
    exact ⟨ret_bool (by rw [H1.out] <;> first | rfl | (simp; done) | (simp; omega)), rfl⟩

end Go.Proofs.YtdfgbdonnpbfcaaDoor
