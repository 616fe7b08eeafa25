/-
  The walk of the law FixSigns.
-/
import Derived.Test.YtikkpfaeenekbaaDoorFixNearWalk
import Derived.Test.YtikkpfaeenekbaaDoorFixSignsMath
namespace Go.Proofs.YtikkpfaeenekbaaDoor
open Go.RowKit

theorem Mul_neg (a b : Int) (w : World) :
    Calls Tryd.prog 23 #[.int .i64 (-a), .int .i64 b] w fun e w' => e = .returned (.tuple #[.int .i64 (-(Fx.mulV a b)), .int .i64 (Fx.mulE a b)]) ∧ Kept w w' := by
  have h := Mul_any (-a) b w
  rw [(Fx.mul_neg a b).1, (Fx.mul_neg a b).2] at h
  exact h
theorem Div_neg (a b : Int) (w : World) :
    Calls Tryd.prog 25 #[.int .i64 (-a), .int .i64 b] w fun e w' => e = .returned (.tuple #[.int .i64 (-(Fx.divV a b)), .int .i64 (Fx.divE a b)]) ∧ Kept w w' := by
  have h := Div_any (-a) b w
  rw [(Fx.div_neg a b).1, (Fx.div_neg a b).2] at h
  exact h
theorem Mul_one (a : Int) (w : World) (ha : Fx.saneB a = true) :
    Calls Tryd.prog 23 #[.int .i64 a, .int .i64 1000] w fun e w' => e = .returned (.tuple #[.int .i64 a, .int .i64 0]) ∧ Kept w w' := by
  have h := Mul_any a 1000 w
  rw [(Fx.mul_one' ha).1, (Fx.mul_one' ha).2] at h
  exact h
theorem Div_one (a : Int) (w : World) (ha : Fx.saneB a = true) :
    Calls Tryd.prog 25 #[.int .i64 a, .int .i64 1000] w fun e w' => e = .returned (.tuple #[.int .i64 a, .int .i64 0]) ∧ Kept w w' := by
  have h := Div_any a 1000 w
  rw [(Fx.div_one' ha).1, (Fx.div_one' ha).2] at h
  exact h

set_option maxHeartbeats 1000000 in
theorem FixSigns_walk (a b : Int) (w : World) (hf : Fine w) :
    Calls Tryd.prog 9 #[.int .i64 a, .int .i64 b] w fun e w' => e = .returned (.bool true) ∧ Kept w w' := by
  obtain ⟨m0, m1⟩ := Fx.mulV_bd a b
  obtain ⟨d0, d1⟩ := Fx.divV_bd a b
  cases hs : (Fx.saneB a && Fx.saneB b)
  · have hn : ¬ (Fx.saneB a = true ∧ Fx.saneB b = true) := by rw [← Bool.and_eq_true, hs]; simp
    have HM := Lib.hid (show Fx.mulE a b = 2 from if_neg hn)
    have HD := Lib.hid (show Fx.divE a b = 2 from if_neg hn)
    clear hn
    go_enter Tryd.func9, Tryd.ntmps9
    go_wp2_with fail
    refine (awake_any _ hf).mono ?_
    rintro e w1 ⟨rfl, k1⟩
    go_wp2_with fail
    refine (Mul_any a b _).mono ?_
    rintro e w2 ⟨rfl, k2⟩
    go_wp2_with fail
    refine (Mul_any _ b _).mono ?_
    rintro e w3 ⟨rfl, k3⟩
    go_wp2_with fail
    refine (Div_any a b _).mono ?_
    rintro e w4 ⟨rfl, k4⟩
    go_wp2_with fail
    refine (Div_any _ b _).mono ?_
    rintro e w5 ⟨rfl, k5⟩
    go_wp2_with fail
    refine (sane_kept2 a b _).mono ?_
    rintro e w6 ⟨rfl, k6⟩
    rw [HM.out, HD.out]
    go_wp2_with fail
    go_ret
    exact ⟨rfl, ((((k1.trans k2).trans k3).trans k4).trans k5).trans k6⟩
  · have ha : Fx.saneB a = true := by simp at hs; exact hs.1
    have hb : Fx.saneB b = true := by simp at hs; exact hs.2
    have a0 := Fx.sane_lo ha
    have a1 := Fx.sane_hi ha
    go_enter Tryd.func9, Tryd.ntmps9
    go_wp2_with fail
    refine (awake_any _ hf).mono ?_
    rintro e w1 ⟨rfl, k1⟩
    go_wp2_with fail
    refine (Mul_any a b _).mono ?_
    rintro e w2 ⟨rfl, k2⟩
    go_wp2_with fail
    refine (Mul_neg a b _).mono ?_
    rintro e w3 ⟨rfl, k3⟩
    go_wp2_with fail
    refine (Div_any a b _).mono ?_
    rintro e w4 ⟨rfl, k4⟩
    go_wp2_with fail
    refine (Div_neg a b _).mono ?_
    rintro e w5 ⟨rfl, k5⟩
    go_wp2_with fail
    refine (sane_kept2 a b _).mono ?_
    rintro e w6 ⟨rfl, k6⟩
    go_wp2_with fail
    refine (Mul_one a _ ha).mono ?_
    rintro e w7 ⟨rfl, k7⟩
    go_wp2_with fail
    refine (Div_one a _ ha).mono ?_
    rintro e w8 ⟨rfl, k8⟩
    go_wp2_with fail
    go_ret
    exact ⟨rfl, ((((((k1.trans k2).trans k3).trans k4).trans k5).trans k6).trans k7).trans k8⟩

end Go.Proofs.YtikkpfaeenekbaaDoor
