/-
  Any lengths' codes, and any bytes' sum.
-/
import Derived.Test.YtkobcgemllcfoaaDoorInfAwake
import Derived.Test.YtkobcgemllcfoaaDoorInfRefCodes
import Derived.Deep.QuietTactic
import Derived.BigQuiet
namespace Go.Proofs.YtkobcgemllcfoaaDoor
open Go.RowKit Ix
set_option linter.unusedSimpArgs false
set_option linter.unusedVariables false

set_option maxRecDepth 100000 in
set_option maxHeartbeats 4000000 in
theorem InflateCodes_walk (v : Value) (X : List Int) (v' : Value) (B : List UInt8) (w : World) (h : IntArg w v X) (hb : ByArg w v' B) :
    Calls Tryd.prog 6 #[v, v'] w fun e w' => e = .returned (.bool true) ∧ Kept w w' := by
  obtain ⟨p, c, rfl, hx, hlc, hlm⟩ := h
  obtain ⟨pb, cb, rfl, hby, hbc, hbm, -⟩ := hb
  have AW := Lib.hid (awake6_any w)
  have hlm2 : X.length ≤ 9223372036854775807 := by unfold maxLen at hlm; omega
  have CA := Lib.hid (fun w' (k : Kept w w') => Codes_any X p c w' (hx.kept k) hlm2)
  have CR := Lib.hid (fun w' (k : Kept w w') => refCodes_any X p c w' (hx.kept k) hlm2)
  clear hx hlm
  by_cases h1 : 400 < X.length
  · have e1 : (400 : Int) < (X.length : Int) := by omega
    go_enter Tryd.func6, Tryd.ntmps6
    go_wp2_with fail
    (with_reducible refine AW.out.mono ?_)
    rintro e w1 ⟨rfl, hk1⟩
    have K1 := Lib.hid hk1
    clear hk1
    go_wp2_with fail
    go_ret
    exact ⟨rfl, K1.out⟩
  have e1 : ¬ (400 : Int) < (X.length : Int) := by omega
  by_cases h2 : 3000 < B.length
  · have e2 : (3000 : Int) < (B.length : Int) := by omega
    go_enter Tryd.func6, Tryd.ntmps6
    go_wp2_with fail
    (with_reducible refine AW.out.mono ?_)
    rintro e w1 ⟨rfl, hk1⟩
    have K1 := Lib.hid hk1
    clear hk1
    go_wp2_with fail
    go_ret
    exact ⟨rfl, K1.out⟩
  have e2 : ¬ (3000 : Int) < (B.length : Int) := by omega
  have AA := Lib.hid (fun w' (k : Kept w w') => Adler_any B pb cb w' (hby.kept k (Nat.le_refl _)) (by omega))
  have AR := Lib.hid (fun w' (k : Kept w w') => refAdler_any B pb cb w' (hby.kept k (Nat.le_refl _)) (by omega))
  clear hby hbm
  cases hV : codesV X with
  | error k =>
    have CE := Lib.hid (fun e w' w'' (h : CodesA X w' e w'') => (show Kept w' w'' ∧ e = .returned (.tuple #[.slice none 0 0, .int .i64 k]) by
      unfold CodesA at h; rw [hV] at h; exact h))
    clear hV
    go_enter Tryd.func6, Tryd.ntmps6
    go_wp2_with fail
    (with_reducible refine AW.out.mono ?_)
    rintro e w1 ⟨rfl, hk1⟩
    have K1 := Lib.hid hk1
    clear hk1
    go_wp2_with fail
    (with_reducible refine (CA.out _ K1.out).mono ?_)
    intro e w2 hca
    obtain ⟨hk2, rfl⟩ := CE.out _ _ _ hca
    have K2 := Lib.hid (K1.out.trans hk2)
    clear hca hk2
    go_wp2_with fail
    (with_reducible refine (CR.out _ K2.out).mono ?_)
    intro e w3 hca
    obtain ⟨hk3, rfl⟩ := CE.out _ _ _ hca
    have K3 := Lib.hid (K2.out.trans hk3)
    clear hca hk3
    go_wp2_with fail
    go_loopg [10] 1 (fun m i wr => m = 1 ∧ i = .int .i64 0 ∧ wr = w3)
    case atStart => exact ⟨rfl, rfl, rfl⟩
    case round =>
      obtain ⟨hm, rfl, rfl⟩ := hrel
      go_wp2_with fail
      (with_reducible refine (AA.out _ K3.out).mono ?_)
      rintro e w4 ⟨rfl, hk4⟩
      have K4 := Lib.hid (K3.out.trans hk4)
      clear hk4
      go_wp2_with fail
      (with_reducible refine (AR.out _ K4.out).mono ?_)
      rintro e w5 ⟨rfl, hk5⟩
      have K5 := Lib.hid (K4.out.trans hk5)
      clear hk5
      go_wp2_with fail
      go_ret
      exact ⟨rfl, K5.out⟩
  | ok l =>
    have CE := Lib.hid (fun e w' w'' (h : CodesA X w' e w'') => (show Kept w' w'' ∧ ∃ g, e = .returned (.tuple #[.slice (some ⟨g, 0, none⟩) X.length X.length, .int .i64 0]) ∧ w'.heap.size ≤ g ∧ Arr w'' g X.length (fun i => ((l.getD i 0 : Nat) : Int)) 3 ∧ l.length = X.length by
      unfold CodesA at h; rw [hV] at h; exact h))
    clear hV
    go_enter Tryd.func6, Tryd.ntmps6
    go_wp2_with fail
    (with_reducible refine AW.out.mono ?_)
    rintro e w1 ⟨rfl, hk1⟩
    have K1 := Lib.hid hk1
    clear hk1
    go_wp2_with fail
    (with_reducible refine (CA.out _ K1.out).mono ?_)
    intro e w2 hca
    obtain ⟨hk2, g, rfl, hg, harr, -⟩ := CE.out _ _ _ hca
    have K2 := Lib.hid (K1.out.trans hk2)
    have HA := Lib.hid harr
    clear hca hk2 harr
    go_wp2_with fail
    (with_reducible refine (CR.out _ K2.out).mono ?_)
    intro e w3 hca
    obtain ⟨hk3, g2, rfl, hg2, harr, -⟩ := CE.out _ _ _ hca
    have K3 := Lib.hid (K2.out.trans hk3)
    have HA3 := Lib.hid (HA.out.kept hk3)
    have HB3 := Lib.hid harr
    clear hca hk3 harr
    go_wp2_with fail
    go_loopg [10] (X.length + 1) (fun m i wr => ∃ j : Nat, m = X.length + 1 - j ∧ j ≤ X.length ∧ i = .int .i64 j ∧ Kept w3 wr)
    case atStart => exact ⟨0, rfl, Nat.zero_le _, rfl, Kept.refl _⟩
    case round =>
      obtain ⟨j, hm, hj, rfl, hkr⟩ := hrel
      have KR := Lib.hid hkr
      clear hkr
      by_cases hlt : j < X.length
      · have c1 := (HA3.out.kept KR.out).cell j hlt
        have c2 := (HB3.out.kept KR.out).cell j hlt
        obtain ⟨x, hx⟩ : ∃ x, x = l.getD j 0 := ⟨_, rfl⟩
        simp only [← hx] at c1 c2
        have dk : ((x : Int) != (x : Int)) = false := by rw [bne_eq_false_iff_eq]
        have j1 : (j : Int) < (X.length : Int) := by omega
        clear hx
        go_wp2_with fail
        go_quiet (fail)
        go_wp2_with fail
        go_roundg (X.length + 1 - (j + 1))
        case measure => omega
        case rel => exact ⟨j + 1, rfl, by omega, by go_num, KR.out.drewN _⟩
      · obtain rfl : j = X.length := by omega
        have KW := Lib.hid (K3.out.trans KR.out)
        go_wp2_with fail
        (with_reducible refine (AA.out _ KW.out).mono ?_)
        rintro e w4 ⟨rfl, hk4⟩
        have K4 := Lib.hid (KW.out.trans hk4)
        clear hk4
        go_wp2_with fail
        (with_reducible refine (AR.out _ K4.out).mono ?_)
        rintro e w5 ⟨rfl, hk5⟩
        have K5 := Lib.hid (K4.out.trans hk5)
        clear hk5
        go_wp2_with fail
        go_ret
        exact ⟨rfl, K5.out⟩

end Go.Proofs.YtkobcgemllcfoaaDoor
