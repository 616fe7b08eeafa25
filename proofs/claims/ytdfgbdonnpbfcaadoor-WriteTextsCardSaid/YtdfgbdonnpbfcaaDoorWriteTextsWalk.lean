/-
  The law WriteTexts answers true.
-/
import Derived.Test.YtdfgbdonnpbfcaaDoorWriteAwake
import Derived.Test.YtdfgbdonnpbfcaaDoorWriteTextMath
namespace Go.Proofs.YtdfgbdonnpbfcaaDoor
open Go.RowKit Cx
set_option linter.unusedSimpArgs false
set_option linter.unusedVariables false

theorem flat_ok (k n f : Int) (s : ByteArray) (h0 : -9223372036854775808 ≤ n) (h1 : n ≤ 9223372036854775807) (hs : s.size ≤ 4294967296) : Ob.Ok (.mk k n f s [] []) :=
  .mk _ _ _ _ _ _ h0 h1 hs (by decide) (by decide) (fun x h => by cases h) (fun x h => by cases h) (fun x h => by cases h)
theorem str_S (s : ByteArray) : (Ob.mk 4 0 0 s [] []).sane 0 = 0 := by kernel_rfl
theorem name_S (s : ByteArray) : (Ob.mk 3 0 0 s [] []).sane 0 = 0 := by kernel_rfl
theorem str_T (s : ByteArray) : (Ob.mk 4 0 0 s [] []).text = Lx.quoteV s.data.toList := by rw [text_mk]; simp
theorem name_T (s : ByteArray) : (Ob.mk 3 0 0 s [] []).text = Lx.nameV s.data.toList := by rw [text_mk]; simp

theorem strObject (s A : ByteArray) (w : World) (hA : A = ⟨(Lx.quoteV s.data.toList).toArray⟩) (hs : s.size ≤ 500) (h5 : A.size ≤ 5000) (hf : Fine w) :
    Calls Tryd.prog 9 #[.agg #[.int .i64 4, .int .i64 0, .int .i64 0, .string s, .slice none 0 0, .slice none 0 0]] w fun e w' => e = .returned (.tuple #[.string A, .int .i64 0]) ∧ Kept w w' := by
  have hl : (Lx.quoteV s.data.toList).length = A.size := by rw [hA]; show _ = (Lx.quoteV s.data.toList).toArray.size; rw [List.size_toArray]
  have h := ObjectW_any (fun _ => True) (.mk 4 0 0 s [] []) ⟨none, 0, none, 0⟩ w (Lies.flat _ 4 0 0 s _ (by unfold maxLen; omega)) hf (fun _ => flat_ok 4 0 0 s (by decide) (by decide) (by omega)) (fun _ => by rw [str_T, hl]; omega)
  rw [show objT (.mk 4 0 0 s [] []) = Lx.quoteV s.data.toList by unfold objT; rw [str_S, str_T]; rfl, show objE (.mk 4 0 0 s [] []) = 0 by unfold objE; rw [str_S]; rfl, ← hA] at h
  exact h

theorem nameObject (s A : ByteArray) (w : World) (hA : A = ⟨(Lx.nameV s.data.toList).toArray⟩) (hs : s.size ≤ 500) (h5 : A.size ≤ 5000) (hf : Fine w) :
    Calls Tryd.prog 9 #[.agg #[.int .i64 3, .int .i64 0, .int .i64 0, .string s, .slice none 0 0, .slice none 0 0]] w fun e w' => e = .returned (.tuple #[.string A, .int .i64 0]) ∧ Kept w w' := by
  have hl : (Lx.nameV s.data.toList).length = A.size := by rw [hA]; show _ = (Lx.nameV s.data.toList).toArray.size; rw [List.size_toArray]
  have h := ObjectW_any (fun _ => True) (.mk 3 0 0 s [] []) ⟨none, 0, none, 0⟩ w (Lies.flat _ 3 0 0 s _ (by unfold maxLen; omega)) hf (fun _ => flat_ok 3 0 0 s (by decide) (by decide) (by omega)) (fun _ => by rw [name_T, hl]; omega)
  rw [show objT (.mk 3 0 0 s [] []) = Lx.nameV s.data.toList by unfold objT; rw [name_S, name_T]; rfl, show objE (.mk 3 0 0 s [] []) = 0 by unfold objE; rw [name_S]; rfl, ← hA] at h
  exact h

theorem b_ne {c d : UInt8} (h : c ≠ d) : ((c.toNat : Int) == (d.toNat : Int)) = false := by
  rw [beq_eq_false_iff_ne]
  intro e
  exact h (UInt8.toNat_inj.1 (by omega))

set_option maxRecDepth 100000 in
set_option maxHeartbeats 4000000 in
theorem WriteTexts_walk (s : ByteArray) (w : World) (hf : Fine w) :
    Calls Tryd.prog 5 #[.string s] w fun e w' => e = .returned (.bool true) ∧ Kept w w' := by
  have HF := Lib.hid hf
  have AW := Lib.hid (awake5_any w hf)
  clear hf
  go_enter Tryd.func5, Tryd.ntmps5
  go_wp2_with fail
  (with_reducible refine AW.out.mono ?_)
  rintro e w1 ⟨rfl, k1⟩
  have K1 := Lib.hid k1
  clear k1
  by_cases hlong : (500 : Int) < (s.size : Int)
  · go_wp2_with fail
    go_ret
    exact ⟨rfl, K1.out⟩
  · obtain ⟨A, hA, a1, a2, hAb, hA0, hAn⟩ := text_str s (by omega)
    obtain ⟨B, hB, b1, b2, hBb, hB0⟩ := text_name s (by omega)
    have SO := Lib.hid (fun w' (k : Kept w w') => strObject s A w' hA (by omega) a2 (HF.out.kept k))
    have NO := Lib.hid (fun w' (k : Kept w w') => nameObject s B w' hB (by omega) b2 (HF.out.kept k))
    have HAB := Lib.hid hAb
    have HBB := Lib.hid hBb
    have e0 := hA0 (by omega)
    have en := hAn (by omega)
    have f0 := hB0 (by omega)
    clear hA hB hAb hBb hA0 hAn hB0
    go_wp2_with fail
    (with_reducible refine (SO.out _ K1.out).mono ?_)
    rintro e w2 ⟨rfl, k2⟩
    have K2 := Lib.hid (K1.out.trans k2)
    clear k2
    go_wp2_with fail
    (with_reducible refine (NO.out _ K2.out).mono ?_)
    rintro e w3 ⟨rfl, k3⟩
    have K3 := Lib.hid (K2.out.trans k3)
    clear k3
    have c1 : ¬ ((A.size : Int) < 2) := by omega
    have c2 : ¬ ((B.size : Int) < 1) := by omega
    go_wp2_with fail
    clear e0 en f0 c1 c2
    go_loopg [8] (A.size) (fun m i wr => ∃ (k : Nat), m = A.size - k ∧ k ≤ A.size ∧ i = .int .i64 k ∧ Kept w wr)
    case atStart => exact ⟨0, rfl, Nat.zero_le _, rfl, K3.out⟩
    case round =>
      obtain ⟨k, hm, hk, rfl, hkr⟩ := hrel
      have KR := Lib.hid hkr
      clear hkr K3
      by_cases hlt : k < A.size
      · obtain ⟨g1, g2⟩ := HAB.out k hlt
        have g1' : ¬ ((A[k].toNat : Int) < 32) := by omega
        have g2' : ¬ ((126 : Int) < (A[k].toNat : Int)) := by omega
        clear g1 g2
        go_wp2_with fail
        go_roundg (A.size - (k + 1))
        case measure => omega
        case rel => exact ⟨k + 1, rfl, by omega, by go_num, KR.out⟩
      · obtain rfl : k = A.size := by omega
        clear hlt
        go_wp2_with fail
        go_loopg [9] (B.size - 1) (fun m i wr => ∃ (k : Nat), m = B.size - k ∧ 1 ≤ k ∧ k ≤ B.size ∧ i = .int .i64 k ∧ Kept w wr)
        case atStart => exact ⟨1, rfl, Nat.le_refl _, by omega, rfl, KR.out⟩
        case round =>
          obtain ⟨k, hm2, hk1, hk2, rfl, hkr⟩ := hrel
          have KS := Lib.hid hkr
          clear hkr KR
          by_cases hlt : k < B.size
          · have hp := HBB.out k hlt hk1
            unfold plainB at hp
            simp only [Bool.and_eq_true, decide_eq_true_eq, bne_iff_ne] at hp
            obtain ⟨⟨g1, g2⟩, ⟨⟨⟨⟨⟨⟨⟨⟨⟨n0, n1⟩, n2⟩, n3⟩, n4⟩, n5⟩, n6⟩, n7⟩, n8⟩, n9⟩⟩ := hp
            have g1' : ¬ ((B[k].toNat : Int) < 33) := by omega
            have g2' : ¬ ((126 : Int) < (B[k].toNat : Int)) := by omega
            have m0 := byte_not n0 47 rfl
            have m1 := byte_not n1 40 rfl
            have m2 := byte_not n2 41 rfl
            have m3 := byte_not n3 60 rfl
            have m4 := byte_not n4 62 rfl
            have m5 := byte_not n5 91 rfl
            have m6 := byte_not n6 93 rfl
            have m7 := byte_not n7 123 rfl
            have m8 := byte_not n8 125 rfl
            have m9 := byte_not n9 37 rfl
            clear g1 g2 n0 n1 n2 n3 n4 n5 n6 n7 n8 n9
            go_wp2_with fail
            go_roundg (B.size - (k + 1))
            case measure => omega
            case rel => exact ⟨k + 1, rfl, by omega, by omega, by go_num, KS.out⟩
          · obtain rfl : k = B.size := by omega
            clear hlt
            have d1 : ¬ ((A.size : Int) < (s.size : Int) + 2) := by omega
            have d2 : ¬ ((B.size : Int) < (s.size : Int) + 1) := by omega
            have d3 : (s.size : Int) + 2 ≤ (A.size : Int) := by omega
            have d4 : (s.size : Int) + 1 ≤ (B.size : Int) := by omega
            go_wp2_with fail
            go_ret
            exact ⟨by simp [d3, d4], KS.out⟩

end Go.Proofs.YtdfgbdonnpbfcaaDoor
