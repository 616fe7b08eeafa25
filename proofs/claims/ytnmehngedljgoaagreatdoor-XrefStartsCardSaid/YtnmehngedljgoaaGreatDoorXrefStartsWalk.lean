/-
  XrefStarts: the place that stands behind the last word that begins it is told.
-/
import Derived.Test.YtnmehngedljgoaaGreatDoorXrfAwake
namespace Go.Proofs.YtnmehngedljgoaaGreatDoor
open Go.RowKit Rx
set_option linter.unusedSimpArgs false
set_option linter.unusedVariables false

theorem and_63x (n : Int) : ∃ k : Nat, bits BinOp.and IntKind.i64 n 63 = (k : Int) ∧ k ≤ 63 := by
  have hle : (BitVec.ofInt 64 n &&& BitVec.ofInt 64 63).toNat ≤ 63 := by
    rw [BitVec.toNat_and]
    exact Nat.and_le_right (n := (BitVec.ofInt 64 n).toNat) (m := 63)
  refine ⟨(BitVec.ofInt 64 n &&& BitVec.ofInt 64 63).toNat, ?_, hle⟩
  show IntKind.i64.wrap ((BitVec.ofInt 64 n &&& BitVec.ofInt 64 63).toNat : Int) = _
  exact IntWalk.i64_in _ (by omega)

theorem digit_of (d : Nat) (hd : d < 10) : (⟨#[48, 49, 50, 51, 52, 53, 54, 55, 56, 57]⟩ : ByteArray).extract d (d + 1) = ⟨#[UInt8.ofNat (48 + d)]⟩ := by
  rcases (show d = 0 ∨ d = 1 ∨ d = 2 ∨ d = 3 ∨ d = 4 ∨ d = 5 ∨ d = 6 ∨ d = 7 ∨ d = 8 ∨ d = 9 by omega) with rfl | rfl | rfl | rfl | rfl | rfl | rfl | rfl | rfl | rfl
  all_goals rfl

set_option maxRecDepth 100000 in
set_option maxHeartbeats 8000000 in
theorem XrefStarts_walk (s : ByteArray) (n : Int) (w : World) (h : Okw w) :
    Calls Tryz.prog 7 #[.string s, .int .i64 n] w fun e w' => e = .returned (.bool true) ∧ Kept w w' := by
  obtain ⟨hm, B, hf, hB⟩ := h
  have HM := Lib.hid hm
  have CA := Lib.hid (awake8_any B w hm hf hB)
  clear hm hf hB
  by_cases hs : 1000 < s.size
  · go_enter Tryz.func7, Tryz.ntmps7
    go_wp2_with fail
    (with_reducible refine CA.out.mono ?_)
    rintro e w1 ⟨rfl, hk1⟩
    go_wp2_with fail
    go_ret
    exact ⟨rfl, hk1⟩
  have hs' : s.size ≤ 1000 := by omega
  clear hs
  obtain ⟨k, hk, hk63⟩ := and_63x n
  have hk10 : k / 10 < 10 := by omega
  have hk11 : k % 10 < 10 := by omega
  obtain ⟨T, hT⟩ : ∃ T, T = (s ++ ⟨#[10, 115, 116, 97, 114, 116, 120, 114, 101, 102, 10]⟩ ++ (⟨#[48, 49, 50, 51, 52, 53, 54, 55, 56, 57]⟩ : ByteArray).extract (k / 10) (k / 10 + 1) ++ (⟨#[48, 49, 50, 51, 52, 53, 54, 55, 56, 57]⟩ : ByteArray).extract (k % 10) (k % 10 + 1) ++ ⟨#[10, 37, 37, 69, 79, 70]⟩ : ByteArray) := ⟨_, rfl⟩
  have hL : T.data.toList = s.data.toList ++ stTail k := by
    rw [hT, digit_of _ hk10, digit_of _ hk11]; simp [stTail]
  have hz : T.size = s.size + 19 := by
    have h := congrArg List.length hL
    rw [List.length_append] at h
    have h2 : T.data.toList.length = T.size := by simp
    have h3 : s.data.toList.length = s.size := by simp
    rw [h2, h3] at h
    exact h
  have hX := start_here s.data.toList (k := k) (by omega)
  rw [← hL, show s.data.toList.length = s.size by simp] at hX
  have HT := Lib.hid hT
  clear hT hL
  go_enter Tryz.func7, Tryz.ntmps7
  go_wp2_with fail
  (with_reducible refine CA.out.mono ?_)
  rintro e w1 ⟨rfl, hk1⟩
  have K1 := Lib.hid hk1
  have M1 := Lib.hid (HM.out.kept hk1)
  clear hk1
  go_wp2_with fail
  go_quiet (fail)
  have e0 := HT.out
  simp only [← e0]
  clear e0
  by_cases hb : s.size + 19 < k
  · have CS := Lib.hid (fun W (h : HasMax W) => show Calls Tryz.prog 24 #[.string T] W fun e w' => e = .returned (.tuple #[.int .i64 0, .int .i64 2]) ∧ Kept W w' from
      Start_any T W (by omega) h (2, 0) (by rw [hX, if_pos hb]))
    have i1 : (T.size : Int) < (k : Int) := by omega
    clear hX hz hb HT
    go_wp2_with fail
    (with_reducible refine (CS.out _ (M1.out.kept ((Kept.refl w1).drewN _))).mono ?_)
    rintro e w2 ⟨rfl, hk2⟩
    have K2 := Lib.hid ((K1.out.drewN _).trans hk2)
    clear hk2
    go_wp2_with fail
    go_ret
    exact ⟨rfl, K2.out⟩
  · have CS := Lib.hid (fun W (h : HasMax W) => show Calls Tryz.prog 24 #[.string T] W fun e w' => e = .returned (.tuple #[.int .i64 (k : Int), .int .i64 0]) ∧ Kept W w' from
      Start_any T W (by omega) h (0, (k : Int)) (by rw [hX, if_neg hb]))
    have i1 : ¬ ((T.size : Int) < (k : Int)) := by omega
    clear hX hz hb HT
    go_wp2_with fail
    (with_reducible refine (CS.out _ (M1.out.kept ((Kept.refl w1).drewN _))).mono ?_)
    rintro e w2 ⟨rfl, hk2⟩
    have K2 := Lib.hid ((K1.out.drewN _).trans hk2)
    clear hk2
    go_wp2_with fail
    go_ret
    exact ⟨rfl, K2.out⟩

end Go.Proofs.YtnmehngedljgoaaGreatDoor
