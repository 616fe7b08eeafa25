/-
  The walk of the law FixTurns.
-/
import Derived.Test.YtikkpfaeenekbaaDoorFixAwake
import Derived.Test.YtikkpfaeenekbaaDoorFixLawMath
namespace Go.Proofs.YtikkpfaeenekbaaDoor
open Go.RowKit

theorem Add_turn (a b : Int) (w : World) :
    Calls Tryd.prog 19 #[.int .i64 b, .int .i64 a] w fun e w' => e = .returned (.tuple #[.int .i64 (Fx.addV a b), .int .i64 (Fx.addE a b)]) ∧ Kept w w' := by
  have h := Add_any b a w
  rw [(Fx.add_turn a b).1, (Fx.add_turn a b).2] at h
  exact h
theorem Mul_turn (a b : Int) (w : World) :
    Calls Tryd.prog 23 #[.int .i64 b, .int .i64 a] w fun e w' => e = .returned (.tuple #[.int .i64 (Fx.mulV a b), .int .i64 (Fx.mulE a b)]) ∧ Kept w w' := by
  have h := Mul_any b a w
  rw [(Fx.mul_turn a b).1, (Fx.mul_turn a b).2] at h
  exact h
theorem Sub_turn (a b : Int) (w : World) :
    Calls Tryd.prog 21 #[.int .i64 b, .int .i64 a] w fun e w' => e = .returned (.tuple #[.int .i64 (-(Fx.subV a b)), .int .i64 (Fx.subE a b)]) ∧ Kept w w' := by
  have h := Sub_any b a w
  rw [(Fx.sub_turn a b).1, (Fx.sub_turn a b).2] at h
  exact h
theorem Sub_back (a b : Int) (w : World) (ha : Fx.saneB a = true) (hb : Fx.saneB b = true) (hs : Fx.saneB (a + b) = true) :
    Calls Tryd.prog 21 #[.int .i64 (a + b), .int .i64 b] w fun e w' => e = .returned (.tuple #[.int .i64 a, .int .i64 0]) ∧ Kept w w' := by
  have h := Sub_any (a + b) b w
  rw [(Fx.add_sub ha hb hs).1, (Fx.add_sub ha hb hs).2] at h
  exact h

set_option maxHeartbeats 1000000 in
theorem FixTurns_walk (a b : Int) (w : World) (hf : Fine w) :
    Calls Tryd.prog 6 #[.int .i64 a, .int .i64 b] w fun e w' => e = .returned (.bool true) ∧ Kept w w' := by
  obtain ⟨s0, s1⟩ := Fx.subV_bd a b
  rcases Fx.addE_or a b with ⟨hE, ha, hb, hs, hV⟩ | hE
  · have HE := Lib.hid hE
    have HV := Lib.hid hV
    clear hE hV
    go_enter Tryd.func6, Tryd.ntmps6
    go_wp2_with fail
    refine (awake_any _ hf).mono ?_
    rintro e w1 ⟨rfl, k1⟩
    go_wp2_with fail
    refine (Add_any a b _).mono ?_
    rintro e w2 ⟨rfl, k2⟩
    rw [HE.out, HV.out]
    go_wp2_with fail
    refine (Add_turn a b _).mono ?_
    rintro e w3 ⟨rfl, k3⟩
    rw [HE.out, HV.out]
    go_wp2_with fail
    refine (Mul_any a b _).mono ?_
    rintro e w4 ⟨rfl, k4⟩
    go_wp2_with fail
    refine (Mul_turn a b _).mono ?_
    rintro e w5 ⟨rfl, k5⟩
    go_wp2_with fail
    refine (Sub_any a b _).mono ?_
    rintro e w6 ⟨rfl, k6⟩
    go_wp2_with fail
    refine (Sub_turn a b _).mono ?_
    rintro e w7 ⟨rfl, k7⟩
    go_wp2_with fail
    refine (Sub_back a b _ ha hb hs).mono ?_
    rintro e w8 ⟨rfl, k8⟩
    go_wp2_with fail
    go_ret
    exact ⟨rfl, ((((((k1.trans k2).trans k3).trans k4).trans k5).trans k6).trans k7).trans k8⟩
  · have HE := Lib.hid hE
    clear hE
    go_enter Tryd.func6, Tryd.ntmps6
    go_wp2_with fail
    refine (awake_any _ hf).mono ?_
    rintro e w1 ⟨rfl, k1⟩
    go_wp2_with fail
    refine (Add_any a b _).mono ?_
    rintro e w2 ⟨rfl, k2⟩
    rw [HE.out]
    go_wp2_with fail
    refine (Add_turn a b _).mono ?_
    rintro e w3 ⟨rfl, k3⟩
    rw [HE.out]
    go_wp2_with fail
    refine (Mul_any a b _).mono ?_
    rintro e w4 ⟨rfl, k4⟩
    go_wp2_with fail
    refine (Mul_turn a b _).mono ?_
    rintro e w5 ⟨rfl, k5⟩
    go_wp2_with fail
    refine (Sub_any a b _).mono ?_
    rintro e w6 ⟨rfl, k6⟩
    go_wp2_with fail
    refine (Sub_turn a b _).mono ?_
    rintro e w7 ⟨rfl, k7⟩
    go_wp2_with fail
    go_ret
    exact ⟨rfl, (((((k1.trans k2).trans k3).trans k4).trans k5).trans k6).trans k7⟩

end Go.Proofs.YtikkpfaeenekbaaDoor
