/-
  What package fix's Parse answers, at every text.
-/
import Derived.Test.YtoakbcjdkohoiaaFine
import Derived.Test.YtoakbcjdkohoiaaMax
import Derived.Test.YtoakbcjdkohoiaaFixText
import Derived.Test.YtoakbcjdkohoiaaShelf
namespace Go.Proofs.Ytoakbcjdkohoiaa
open Go.RowKit

theorem cutSign_any (l : List UInt8) (w : World) :
    Calls Try.prog 89 #[.string ⟨l.toArray⟩] w fun e w' => e = .returned (.tuple #[.bool (Fx.signOf l), .string ⟨(Fx.behindSign l).toArray⟩]) ∧ ∃ k, w' = w.drewN k := by
  cases l with
  | nil => exact cutSign_nil w
  | cons c r => exact cutSign_cons c r w

theorem Cut_any (d : List UInt8) (w : World) (hd : d.length ≤ 4000000000) (hf : HasMax w) :
    Calls Try.prog 90 #[.string ⟨d.toArray⟩, .string ⟨#[46]⟩] w fun e w' => e = .returned (.tuple #[.string ⟨(Fx.wholeOf d).toArray⟩, .string ⟨(Fx.partOf d).toArray⟩, .bool (Fx.pointIn d)]) ∧ ∃ k, w' = w.drewN k := by
  obtain ⟨m, hm⟩ := hf
  exact Try.strings_Cut ⟨d.toArray⟩ ⟨#[46]⟩ m w (show d.toArray.size < _ by simp; omega) hm

theorem allDigits_list (l : List UInt8) (w : World) (hl : l.length ≤ 9223372036854775807) :
    Calls Try.prog 91 #[.string ⟨l.toArray⟩] w fun e w' => e = .returned (.bool (Fx.allDig l)) ∧ w = w' :=
  allDigits_any ⟨l.toArray⟩ w (show l.toArray.size ≤ _ by simpa using hl)
theorem thousandths_list (l p : List UInt8) (w : World) (hl : l.length ≤ 9223372036854775807) (hd : Fx.allDig l = true) (hp : Fx.allDig p = true) :
    Calls Try.prog 92 #[.string ⟨l.toArray⟩, .string ⟨p.toArray⟩] w fun e w' => e = .returned (.int .i64 (Fx.thou l p)) ∧ w = w' :=
  thousandths_any ⟨l.toArray⟩ ⟨p.toArray⟩ w (show l.toArray.size ≤ _ by simpa using hl) hd hp

set_option maxHeartbeats 400000 in
theorem Parse_long (l : List UInt8) (w : World) (hl : 400 < l.length) (hl' : l.length ≤ 9223372036854775807) :
    Calls Try.prog 75 #[.string ⟨l.toArray⟩] w fun e w' => e = .returned (.tuple #[.int .i64 (Fx.parseV l), .int .i64 (Fx.parseE l)]) ∧ Kept w w' := by
  have HP := Lib.hid (Fx.parse_long hl)
  go_enter Try.func75, Try.ntmps75
  go_wp2
  go_ret2
  exact ⟨ret_ints HP.out.1.symm HP.out.2.symm, Kept.refl _⟩

set_option maxHeartbeats 1000000 in
theorem Parse_short (l : List UInt8) (w : World) (hl : l.length ≤ 400) (hf : HasMax w) :
    Calls Try.prog 75 #[.string ⟨l.toArray⟩] w fun e w' => e = .returned (.tuple #[.int .i64 (Fx.parseV l), .int .i64 (Fx.parseE l)]) ∧ Kept w w' := by
  have hb := Fx.behindSign_le l
  have hw := Fx.wholeOf_le (Fx.behindSign l)
  have hp := Fx.partOf_le (Fx.behindSign l)
  by_cases hz0 : (Fx.wholeOf (Fx.behindSign l)).length + (Fx.partOf (Fx.behindSign l)).length = 0
  · have HP := Lib.hid (Fx.parse_form (l := l) (by omega) (Fx.form_zero hz0))
    have hz : (((Fx.wholeOf (Fx.behindSign l)).length : Int) + ((Fx.partOf (Fx.behindSign l)).length : Int) == 0) = true := by rw [beq_iff_eq]; omega
    clear hz0
    go_enter Try.func75, Try.ntmps75
    go_wp2_with (first | (go_at_call 89; refine (cutSign_any _ _).mono ?_; rintro e w' ⟨rfl, k1, rfl⟩) | (go_at_call 90; refine (Cut_any _ _ (by omega) (hf.kept ((Kept.refl _).drewN _))).mono ?_; rintro e w' ⟨rfl, k2, rfl⟩))
    go_ret2
    exact ⟨ret_ints HP.out.1.symm HP.out.2.symm, (Kept.refl _).drewN _⟩
  have hz : (((Fx.wholeOf (Fx.behindSign l)).length : Int) + ((Fx.partOf (Fx.behindSign l)).length : Int) == 0) = false := by rw [beq_eq_false_iff_ne]; omega
  cases h1 : Fx.allDig (Fx.wholeOf (Fx.behindSign l))
  · have HP := Lib.hid (Fx.parse_form (l := l) (by omega) (Fx.form_whole h1))
    clear hz0
    go_enter Try.func75, Try.ntmps75
    go_wp2_with (first | (go_at_call 89; refine (cutSign_any _ _).mono ?_; rintro e w' ⟨rfl, k1, rfl⟩) | (go_at_call 90; refine (Cut_any _ _ (by omega) (hf.kept ((Kept.refl _).drewN _))).mono ?_; rintro e w' ⟨rfl, k2, rfl⟩) | (go_at_call 91; refine (allDigits_list _ _ (by omega)).mono ?_; rintro e w' ⟨rfl, rfl⟩))
    go_ret2
    exact ⟨ret_ints HP.out.1.symm HP.out.2.symm, (Kept.refl _).drewN _⟩
  cases h2 : Fx.allDig (Fx.partOf (Fx.behindSign l))
  · have HP := Lib.hid (Fx.parse_form (l := l) (by omega) (Fx.form_part h2))
    clear hz0
    go_enter Try.func75, Try.ntmps75
    go_wp2_with (first | (go_at_call 89; refine (cutSign_any _ _).mono ?_; rintro e w' ⟨rfl, k1, rfl⟩) | (go_at_call 90; refine (Cut_any _ _ (by omega) (hf.kept ((Kept.refl _).drewN _))).mono ?_; rintro e w' ⟨rfl, k2, rfl⟩) | (go_at_call 91; refine (allDigits_list _ _ (by omega)).mono ?_; rintro e w' ⟨rfl, rfl⟩))
    go_ret2
    exact ⟨ret_ints HP.out.1.symm HP.out.2.symm, (Kept.refl _).drewN _⟩
  have HP := Lib.hid (Fx.parse_num (l := l) (by omega) (Fx.form_yes hz0 h1 h2))
  obtain ⟨n0, n1⟩ := Fx.thou_bd h1 h2
  cases hs : Fx.signOf l
  · have HN := Lib.hid (show Fx.numOf l = Fx.thou (Fx.wholeOf (Fx.behindSign l)) (Fx.partOf (Fx.behindSign l)) from if_neg (by rw [hs]; simp))
    clear hz0
    go_enter Try.func75, Try.ntmps75
    go_wp2_with (first | (go_at_call 89; refine (cutSign_any _ _).mono ?_; rintro e w' ⟨rfl, k1, rfl⟩) | (go_at_call 90; refine (Cut_any _ _ (by omega) (hf.kept ((Kept.refl _).drewN _))).mono ?_; rintro e w' ⟨rfl, k2, rfl⟩) | (go_at_call 91; refine (allDigits_list _ _ (by omega)).mono ?_; rintro e w' ⟨rfl, rfl⟩) | (go_at_call 92; refine (thousandths_list _ _ _ (by omega) (by assumption) (by assumption)).mono ?_; rintro e w' ⟨rfl, rfl⟩) | (go_at_call 93; refine (checked_any _ _).mono ?_; rintro e w' ⟨rfl, hg⟩))
    go_ret2
    exact ⟨ret_ints (by rw [HP.out.1, HN.out]) (by rw [HP.out.2, HN.out]), Kept.trans ((Kept.refl _).drewN _) hg⟩
  · have HN := Lib.hid (show Fx.numOf l = -(Fx.thou (Fx.wholeOf (Fx.behindSign l)) (Fx.partOf (Fx.behindSign l))) from if_pos hs)
    clear hz0
    go_enter Try.func75, Try.ntmps75
    go_wp2_with (first | (go_at_call 89; refine (cutSign_any _ _).mono ?_; rintro e w' ⟨rfl, k1, rfl⟩) | (go_at_call 90; refine (Cut_any _ _ (by omega) (hf.kept ((Kept.refl _).drewN _))).mono ?_; rintro e w' ⟨rfl, k2, rfl⟩) | (go_at_call 91; refine (allDigits_list _ _ (by omega)).mono ?_; rintro e w' ⟨rfl, rfl⟩) | (go_at_call 92; refine (thousandths_list _ _ _ (by omega) (by assumption) (by assumption)).mono ?_; rintro e w' ⟨rfl, rfl⟩) | (go_at_call 93; refine (checked_any _ _).mono ?_; rintro e w' ⟨rfl, hg⟩))
    go_ret2
    exact ⟨ret_ints (by rw [HP.out.1, HN.out]) (by rw [HP.out.2, HN.out]), Kept.trans ((Kept.refl _).drewN _) hg⟩

theorem Parse_max (l : List UInt8) (w : World) (hl : l.length ≤ 9223372036854775807) (hf : HasMax w) :
    Calls Try.prog 75 #[.string ⟨l.toArray⟩] w fun e w' => e = .returned (.tuple #[.int .i64 (Fx.parseV l), .int .i64 (Fx.parseE l)]) ∧ Kept w w' := by
  by_cases h : 400 < l.length
  · exact Parse_long l w h hl
  · exact Parse_short l w (by omega) hf

theorem Parse_any (l : List UInt8) (w : World) (hl : l.length ≤ 9223372036854775807) (hf : Fine w) :
    Calls Try.prog 75 #[.string ⟨l.toArray⟩] w fun e w' => e = .returned (.tuple #[.int .i64 (Fx.parseV l), .int .i64 (Fx.parseE l)]) ∧ Kept w w' :=
  Parse_max l w hl hf.1

end Go.Proofs.Ytoakbcjdkohoiaa
