/-
  What package lex's questions on one byte answer; none of them turns anything.
-/
import Derived.Test.YtkobcgemllcfoaaDoorKept
import Derived.Test.YtkobcgemllcfoaaDoorFixWalks
import Derived.Test.YtkobcgemllcfoaaDoorLexMath
import Derived.Test.YtkobcgemllcfoaaDoorShelf
namespace Go.Proofs.YtkobcgemllcfoaaDoor
open Go.RowKit

theorem IndexByte_at (l : List UInt8) (c : UInt8) (w : World) :
    Calls Tryd.prog 120 #[.string ⟨l.toArray⟩, .int .u8 (c.toNat : Int)] w fun e w' => e = .returned (.int .i64 (Lib.indexByte l c)) ∧ w = w' :=
  (Tryd.strings_IndexByte ⟨l.toArray⟩ (c.toNat : Int) w).mono fun e w' ⟨he, hw⟩ => ⟨by rw [he]; simp, hw.symm⟩

theorem white_index (c : UInt8) : decide (0 ≤ Lib.indexByte [0, 9, 10, 12, 13, 32] c) = Lx.white c := by
  have := Lx.byte_all (fun c => decide (0 ≤ Lib.indexByte [0, 9, 10, 12, 13, 32] c) == Lx.white c) (by kernel_rfl) c
  simpa using this
theorem delim_index (c : UInt8) : decide (0 ≤ Lib.indexByte [40, 41, 60, 62, 91, 93, 123, 125, 47, 37] c) = Lx.delim c := by
  have := Lx.byte_all (fun c => decide (0 ≤ Lib.indexByte [40, 41, 60, 62, 91, 93, 123, 125, 47, 37] c) == Lx.delim c) (by kernel_rfl) c
  simpa using this

theorem White_any (c : UInt8) (w : World) :
    Calls Tryd.prog 118 #[.int .u8 (c.toNat : Int)] w fun e w' => e = .returned (.bool (Lx.white c)) ∧ w = w' := by
  have H := Lib.hid (white_index c)
  go_enter Tryd.func118, Tryd.ntmps118
  go_wp2_with (go_at_call 120; refine (IndexByte_at [0, 9, 10, 12, 13, 32] c _).mono ?_; rintro e w' ⟨rfl, rfl⟩)
  go_ret
  exact ⟨ret_bool H.out, rfl⟩
theorem Delim_any (c : UInt8) (w : World) :
    Calls Tryd.prog 119 #[.int .u8 (c.toNat : Int)] w fun e w' => e = .returned (.bool (Lx.delim c)) ∧ w = w' := by
  have H := Lib.hid (delim_index c)
  go_enter Tryd.func119, Tryd.ntmps119
  go_wp2_with (go_at_call 120; refine (IndexByte_at [40, 41, 60, 62, 91, 93, 123, 125, 47, 37] c _).mono ?_; rintro e w' ⟨rfl, rfl⟩)
  go_ret
  exact ⟨ret_bool H.out, rfl⟩

theorem regular_any (c : UInt8) (w : World) :
    Calls Tryd.prog 93 #[.int .u8 (c.toNat : Int)] w fun e w' => e = .returned (.bool (Lx.reg c)) ∧ w = w' := by
  have H := Lib.hid (show Lx.reg c = (!Lx.white c && !Lx.delim c) from rfl)
  cases h : Lx.white c
  · have H1 := Lib.hid (show Lx.reg c = !Lx.delim c by rw [H.out, h]; rfl)
    clear H
    go_enter Tryd.func93, Tryd.ntmps93
    go_wp2_with (first | (go_at_call 118; refine (White_any c _).mono ?_; rintro e w' ⟨rfl, rfl⟩) | (go_at_call 119; refine (Delim_any c _).mono ?_; rintro e w' ⟨rfl, rfl⟩))
    go_ret
    exact ⟨ret_bool H1.out.symm, rfl⟩
  · have H1 := Lib.hid (show Lx.reg c = false by rw [H.out, h]; rfl)
    clear H
    go_enter Tryd.func93, Tryd.ntmps93
    go_wp2_with (first | (go_at_call 118; refine (White_any c _).mono ?_; rintro e w' ⟨rfl, rfl⟩) | (go_at_call 119; refine (Delim_any c _).mono ?_; rintro e w' ⟨rfl, rfl⟩))
    go_ret
    exact ⟨ret_bool H1.out.symm, rfl⟩

theorem printed_any (c : UInt8) (w : World) :
    Calls Tryd.prog 94 #[.int .u8 (c.toNat : Int)] w fun e w' => e = .returned (.bool (Lx.printed c)) ∧ w = w' := by
  by_cases h : 32 ≤ c.toNat
  · by_cases h2 : c.toNat ≤ 126
    · have H1 := Lib.hid (show Lx.printed c = true by simp [Lx.printed, h, h2])
      go_enter Tryd.func94, Tryd.ntmps94
      go_wp2
      go_ret
      exact ⟨ret_bool (by rw [H1.out] <;> first | rfl | (simp; done) | (simp; omega)), rfl⟩
    · have H1 := Lib.hid (show Lx.printed c = false by simp [Lx.printed, h2])
      have h3 : 126 < c.toNat := by omega
      clear h2
      go_enter Tryd.func94, Tryd.ntmps94
      go_wp2
      go_ret
      exact ⟨ret_bool (by rw [H1.out] <;> first | rfl | (simp; done) | (simp; omega)), rfl⟩
  · have H1 := Lib.hid (show Lx.printed c = false by simp [Lx.printed, h])
    have h3 : c.toNat < 32 := by omega
    clear h
    go_enter Tryd.func94, Tryd.ntmps94
    go_wp2
    go_ret
    exact ⟨ret_bool (by rw [H1.out] <;> first | rfl | (simp; done) | (simp; omega)), rfl⟩

end Go.Proofs.YtkobcgemllcfoaaDoor
