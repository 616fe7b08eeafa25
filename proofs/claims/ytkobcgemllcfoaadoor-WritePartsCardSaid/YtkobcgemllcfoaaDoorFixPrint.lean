/-
  What package fix's Print answers, at every number.
-/
import Derived.Test.YtkobcgemllcfoaaDoorFine
import Derived.Test.YtkobcgemllcfoaaDoorFixOps
import Derived.Test.YtkobcgemllcfoaaDoorShelf
namespace Go.Proofs.YtkobcgemllcfoaaDoor
open Go.RowKit

theorem Itoa_any (n : Int) (w : World) (h0 : -9223372036854775808 ≤ n) (h1 : n ≤ 9223372036854775807) (hf : Fine w) :
    Calls Tryd.prog 37 #[.int .i64 n] w fun e w' => e = .returned (.string ⟨(Lib.itoa n).toArray⟩) ∧ Kept w w' :=
  (Tryd.strconv_Itoa n h0 h1 w hf.2).mono fun _ _ ⟨he, k, os, hw⟩ => ⟨he, by rw [hw]; exact Kept.grow ((Kept.refl _).drewN k) os⟩
theorem Trim_any (s : ByteArray) (w : World) (hs : s.size ≤ 9223372036854775807) :
    Calls Tryd.prog 121 #[.string s, .string ⟨#[48]⟩] w fun e w' => e = .returned (.string ⟨(Lib.trimRightB s.data.toList 48).toArray⟩) ∧ w = w' :=
  (Tryd.strings_TrimRight_one s 48 (by decide) w hs).mono fun _ _ ⟨he, hw⟩ => ⟨he, hw.symm⟩

theorem ret_str {a b : ByteArray} (h : a = b) : Ending.returned (.string a) = .returned (.string b) := by rw [h]
theorem bytes_drop (t : List UInt8) (k : Nat) : (⟨t.toArray⟩ : ByteArray).extract k t.length = ⟨(t.drop k).toArray⟩ := by
  apply ByteArray.ext
  rw [ByteArray.data_extract]
  simp only [List.extract_toArray, List.extract_eq_take_drop]
  rw [List.take_of_length_le (by simp)]
theorem bytes_cons (c : UInt8) (l : List UInt8) : (⟨#[c]⟩ : ByteArray) ++ ⟨l.toArray⟩ = ⟨(c :: l).toArray⟩ := by
  apply ByteArray.ext
  rw [ByteArray.data_append]
  simp
theorem bytes_append (a b : List UInt8) : (⟨a.toArray⟩ : ByteArray) ++ ⟨b.toArray⟩ = ⟨(a ++ b).toArray⟩ := by
  apply ByteArray.ext
  rw [ByteArray.data_append]
  simp

theorem Trim_drop (t : List UInt8) (w : World) (ht : t.length ≤ 9223372036854775807) :
    Calls Tryd.prog 121 #[.string ((⟨t.toArray⟩ : ByteArray).extract 1 t.length), .string ⟨#[48]⟩] w fun e w' => e = .returned (.string ⟨(Fx.trimT t).toArray⟩) ∧ w = w' := by
  rw [bytes_drop]
  exact Trim_any ⟨(t.drop 1).toArray⟩ w (show (t.drop 1).toArray.size ≤ _ by simp; omega)

set_option maxHeartbeats 400000 in
theorem partText_any (n : Int) (w : World) (h0 : 0 ≤ n) (h1 : n ≤ 999) (hf : Fine w) :
    Calls Tryd.prog 97 #[.int .i64 n] w fun e w' => e = .returned (.string ⟨(Fx.partT n).toArray⟩) ∧ Kept w w' := by
  by_cases hz : n = 0
  · have HP := Lib.hid (show Fx.partT n = [] from if_pos hz)
    have hz' : (n == 0) = true := by simpa using hz
    clear hz
    go_enter Tryd.func97, Tryd.ntmps97
    go_wp2
    go_ret
    exact ⟨ret_str (by rw [HP.out]), Kept.refl _⟩
  · have HP := Lib.hid (show Fx.partT n = 46 :: Fx.trimT (Lib.itoa (1000 + n)) from if_neg hz)
    have hz' : (n == 0) = false := by simpa using hz
    clear hz
    obtain ⟨l0, l1⟩ := Fx.itoa_len (n := 1000 + n) (by omega) (by omega)
    have l2 := Fx.trimT_len (Lib.itoa (1000 + n)) l0
    go_enter Tryd.func97, Tryd.ntmps97
    go_wp2_with (first | (go_at_call 37; refine (Itoa_any _ _ (by omega) (by omega) hf).mono ?_; rintro e w' ⟨rfl, hk⟩) | (go_at_call 121; refine (Trim_drop _ _ (by omega)).mono ?_; rintro e w' ⟨rfl, rfl⟩))
    go_ret
    refine ⟨ret_str ?_, hk⟩
    rw [HP.out]
    exact bytes_cons _ _

set_option maxHeartbeats 400000 in
theorem Print_minus (g : Int) (w : World) (hf : Fine w) (h : Fx.saneB (-g) = true) (hg : 0 < g) :
    Calls Tryd.prog 63 #[.int .i64 (-g)] w fun e w' => e = .returned (.string ⟨(Fx.printL (-g)).toArray⟩) ∧ Kept w w' := by
  have a0 := Fx.sane_lo h
  have HP := Lib.hid (Fx.print_minus h hg)
  obtain ⟨l0, l1⟩ := Fx.itoa_len (n := g / 1000) (by omega) (by omega)
  have l2 := Fx.part_len (n := g % 1000) (by omega) (by omega)
  go_enter Tryd.func63, Tryd.ntmps63
  go_wp2_with (first | (go_at_call 96; refine (sane_new1 _ _).mono ?_; rintro e w' ⟨rfl, rfl⟩) | (go_at_call 37; refine (Itoa_any _ _ (by omega) (by omega) (hf.kept ((Kept.refl _).alloc _ _))).mono ?_; rintro e w' ⟨rfl, hk⟩) | (go_at_call 97; refine (partText_any _ _ (by omega) (by omega) ((hf.kept ((Kept.refl _).alloc _ _)).kept hk)).mono ?_; rintro e w' ⟨rfl, hk'⟩))
  go_ret
  refine ⟨ret_str ?_, Kept.trans (Kept.trans ((Kept.refl _).alloc _ _) hk) hk'⟩
  rw [HP.out]
  rw [bytes_cons, bytes_append]
  rfl

set_option maxHeartbeats 400000 in
theorem Print_plus (f : Int) (w : World) (hf : Fine w) (h : Fx.saneB f = true) (hn : 0 ≤ f) :
    Calls Tryd.prog 63 #[.int .i64 f] w fun e w' => e = .returned (.string ⟨(Fx.printL f).toArray⟩) ∧ Kept w w' := by
  have a1 := Fx.sane_hi h
  have HP := Lib.hid (Fx.print_plus h (by omega))
  obtain ⟨l0, l1⟩ := Fx.itoa_len (n := f / 1000) (by omega) (by omega)
  have l2 := Fx.part_len (n := f % 1000) (by omega) (by omega)
  go_enter Tryd.func63, Tryd.ntmps63
  go_wp2_with (first | (go_at_call 96; refine (sane_new1 _ _).mono ?_; rintro e w' ⟨rfl, rfl⟩) | (go_at_call 37; refine (Itoa_any _ _ (by omega) (by omega) (hf.kept ((Kept.refl _).alloc _ _))).mono ?_; rintro e w' ⟨rfl, hk⟩) | (go_at_call 97; refine (partText_any _ _ (by omega) (by omega) ((hf.kept ((Kept.refl _).alloc _ _)).kept hk)).mono ?_; rintro e w' ⟨rfl, hk'⟩))
  go_ret
  refine ⟨ret_str ?_, Kept.trans (Kept.trans ((Kept.refl _).alloc _ _) hk) hk'⟩
  rw [HP.out]
  rw [show (⟨#[]⟩ : ByteArray) = ⟨([] : List UInt8).toArray⟩ from rfl, bytes_append, bytes_append]
  rfl

set_option maxHeartbeats 400000 in
theorem Print_none (f : Int) (w : World) (h : Fx.saneB f = false) :
    Calls Tryd.prog 63 #[.int .i64 f] w fun e w' => e = .returned (.string ⟨(Fx.printL f).toArray⟩) ∧ Kept w w' := by
  have HP := Lib.hid (Fx.print_none h)
  go_enter Tryd.func63, Tryd.ntmps63
  go_wp2_with (go_at_call 96; refine (sane_new1 _ _).mono ?_; rintro e w' ⟨rfl, rfl⟩)
  go_ret
  exact ⟨ret_str (by rw [HP.out]), (Kept.refl _).alloc _ _⟩

theorem Print_any (f : Int) (w : World) (hf : Fine w) :
    Calls Tryd.prog 63 #[.int .i64 f] w fun e w' => e = .returned (.string ⟨(Fx.printL f).toArray⟩) ∧ Kept w w' := by
  cases h : Fx.saneB f
  · exact Print_none f w h
  · by_cases hn : f < 0
    · have := Print_minus (-f) w hf (by rw [Int.neg_neg]; exact h) (by omega)
      rwa [Int.neg_neg] at this
    · exact Print_plus f w hf h (by omega)

end Go.Proofs.YtkobcgemllcfoaaDoor
