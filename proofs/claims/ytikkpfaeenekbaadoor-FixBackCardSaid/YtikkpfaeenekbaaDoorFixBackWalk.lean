/-
  The walk of the law FixBack.
-/
import Derived.Test.YtikkpfaeenekbaaDoorFixAwake
import Derived.Test.YtikkpfaeenekbaaDoorFixRef
import Derived.Test.YtikkpfaeenekbaaDoorFixBackMath
namespace Go.Proofs.YtikkpfaeenekbaaDoor
open Go.RowKit

theorem Parse_back (f : Int) (w : World) (h : Fx.saneB f = true) (hf : Fine w) :
    Calls Tryd.prog 11 #[.string ⟨(Fx.printL f).toArray⟩] w fun e w' => e = .returned (.tuple #[.int .i64 f, .int .i64 0]) ∧ Kept w w' := by
  obtain ⟨h1, h2, h3⟩ := Fx.print_back h
  have k := Parse_any (Fx.printL f) w (by omega) hf
  rw [h1, h2] at k
  exact k
theorem Parse_zero (f : Int) (w : World) (h : Fx.saneB f = true) (h0 : 0 ≤ f) (hf : Fine w) :
    Calls Tryd.prog 11 #[.string ((⟨#[48]⟩ : ByteArray) ++ ⟨(Fx.printL f).toArray⟩)] w fun e w' => e = .returned (.tuple #[.int .i64 f, .int .i64 0]) ∧ Kept w w' := by
  obtain ⟨h1, h2⟩ := Fx.zero_back h h0
  have h3 := (Fx.print_back h).2.2
  have k := Parse_any (48 :: Fx.printL f) w (by rw [List.length_cons]; omega) hf
  rw [h1, h2] at k
  rw [bytes_cons]
  exact k

set_option maxHeartbeats 1000000 in
theorem FixBack_walk (f : Int) (w : World) (hf : Fine w) :
    Calls Tryd.prog 5 #[.int .i64 f] w fun e w' => e = .returned (.bool true) ∧ Kept w w' := by
  cases hs : Fx.saneB f
  · have HP := Lib.hid (Fx.print_none hs)
    go_enter Tryd.func5, Tryd.ntmps5
    go_wp2_with fail
    refine (awake_any _ hf).mono ?_
    rintro e w1 ⟨rfl, k1⟩
    go_wp2_with fail
    refine (aw_sane f _).mono ?_
    rintro e w2 ⟨rfl, k2⟩
    go_wp2_with fail
    refine (Print_any f _ ((hf.kept k1).kept k2)).mono ?_
    rintro e w3 ⟨rfl, k3⟩
    rw [HP.out]
    go_wp2_with fail
    refine (RMay_any f _).mono ?_
    rintro e w' ⟨rfl, rfl⟩
    go_wp2_with fail
    go_ret
    exact ⟨rfl, (k1.trans k2).trans k3⟩
  · have a0 := Fx.sane_lo hs
    have a1 := Fx.sane_hi hs
    have hm : Fx.saneB (max f (-f)) = true := by rw [Fx.sane_iff]; omega
    have m0 : 0 ≤ max f (-f) := by omega
    have l0 := (Fx.print_back hs).2.2
    have l1 := (Fx.print_back hm).2.2
    go_enter Tryd.func5, Tryd.ntmps5
    go_wp2_with fail
    refine (awake_any _ hf).mono ?_
    rintro e w1 ⟨rfl, k1⟩
    go_wp2_with fail
    refine (aw_sane f _).mono ?_
    rintro e w2 ⟨rfl, k2⟩
    go_wp2_with fail
    refine (Print_any f _ ((hf.kept k1).kept k2)).mono ?_
    rintro e w3 ⟨rfl, k3⟩
    go_wp2_with fail
    refine (Parse_back f _ hs (((hf.kept k1).kept k2).kept k3)).mono ?_
    rintro e w4 ⟨rfl, k4⟩
    go_wp2_with fail
    refine (Print_any f _ ((((hf.kept k1).kept k2).kept k3).kept k4)).mono ?_
    rintro e w5 ⟨rfl, k5⟩
    have hf5 := ((((hf.kept k1).kept k2).kept k3).kept k4).kept k5
    go_wp2_with fail
    refine (Print_any (max f (-f)) _ hf5).mono ?_
    rintro e w6 ⟨rfl, k6⟩
    go_wp2_with fail
    refine (Parse_zero (max f (-f)) _ hm m0 (hf5.kept k6)).mono ?_
    rintro e w7 ⟨rfl, k7⟩
    go_wp2_with fail
    go_ret
    exact ⟨ret_bool (decide_eq_true (by omega)), (((((k1.trans k2).trans k3).trans k4).trans k5).trans k6).trans k7⟩

end Go.Proofs.YtikkpfaeenekbaaDoor
