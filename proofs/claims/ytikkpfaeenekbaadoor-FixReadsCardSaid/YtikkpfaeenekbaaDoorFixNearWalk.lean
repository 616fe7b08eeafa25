/-
  The walk of the law FixNear.
-/
import Derived.Test.YtikkpfaeenekbaaDoorFixAwake
import Derived.Test.YtikkpfaeenekbaaDoorFixNearMath
namespace Go.Proofs.YtikkpfaeenekbaaDoor
open Go.RowKit

theorem sane_kept2 (x y : Int) (w : World) :
    Calls Tryd.prog 17 #[.slice (some ⟨w.heap.size, 0, none⟩) 2 2] (w.alloc (.cells #[.int .i64 x, .int .i64 y] 22)) fun e w' => e = .returned (.bool (Fx.saneB x && Fx.saneB y)) ∧ Kept w w' :=
  (sane_new2 x y w).mono fun _ _ ⟨he, hw⟩ => ⟨he, hw ▸ (Kept.refl _).alloc _ _⟩

set_option maxHeartbeats 1000000 in
theorem FixNear_walk (a b : Int) (w : World) (hf : Fine w) :
    Calls Tryd.prog 7 #[.int .i64 a, .int .i64 b] w fun e w' => e = .returned (.bool true) ∧ Kept w w' := by
  cases hs : (Fx.saneB a && Fx.saneB b)
  · have hs' := hs
    go_enter Tryd.func7, Tryd.ntmps7
    go_wp2_with fail
    refine (awake_any _ hf).mono ?_
    rintro e w1 ⟨rfl, k1⟩
    go_wp2_with fail
    refine (sane_kept2 a b _).mono ?_
    rintro e w2 ⟨rfl, k2⟩
    go_wp2_with fail
    go_ret
    exact ⟨rfl, k1.trans k2⟩
  · have ha : Fx.saneB a = true := by simp at hs; exact hs.1
    have hb : Fx.saneB b = true := by simp at hs; exact hs.2
    have a0 := Fx.sane_lo ha
    have a1 := Fx.sane_hi ha
    have b0 := Fx.sane_lo hb
    have b1 := Fx.sane_hi hb
    obtain ⟨p0, p1⟩ := Fx.mul_bd ha hb
    have HM := Lib.hid (Fx.mul_or ha hb)
    have HZ := Lib.hid (fun h => Fx.div_zero ha hb h)
    have HD := Lib.hid (fun h => Fx.div_or ha hb h)
    go_enter Tryd.func7, Tryd.ntmps7
    go_wp2_with fail
    refine (awake_any _ hf).mono ?_
    rintro e w1 ⟨rfl, k1⟩
    go_wp2_with fail
    refine (sane_kept2 a b _).mono ?_
    rintro e w2 ⟨rfl, k2⟩
    go_wp2_with fail
    refine (Mul_any a b _).mono ?_
    rintro e w3 ⟨rfl, k3⟩
    go_wp2_with fail
    refine (Div_any a b _).mono ?_
    rintro e w4 ⟨rfl, k4⟩
    generalize Fx.mulE a b = me at *
    generalize Fx.mulV a b = mv at *
    generalize Fx.divE a b = de at *
    generalize Fx.divV a b = dv at *
    have HK := Lib.hid (((k1.trans k2).trans k3).trans k4)
    clear k1 k2 k3 k4
    by_cases hz : b = 0
    · obtain ⟨rfl, rfl⟩ := HZ.out hz
      have hz' : (b == 0) = true := by simpa using hz
      clear hz HZ HD
      rcases HM.out with ⟨rfl, m0, m1, m2, m3⟩ | ⟨rfl, rfl⟩
      · go_wp2_with fail
        go_ret
        exact ⟨rfl, HK.out⟩
      · go_wp2_with fail
        go_ret
        exact ⟨rfl, HK.out⟩
    · have hz' : (b == 0) = false := by simpa using hz
      rcases HD.out hz with ⟨rfl, d0, d1⟩ | ⟨rfl, rfl⟩
      · obtain ⟨q0, q1⟩ := Fx.mul_bd d1 hb
        unfold Fx.mag at d0
        clear hz HZ HD
        rcases HM.out with ⟨rfl, m0, m1, m2, m3⟩ | ⟨rfl, rfl⟩
        · go_wp2_with fail
          go_ret
          exact ⟨rfl, HK.out⟩
        · go_wp2_with fail
          go_ret
          exact ⟨rfl, HK.out⟩
      · clear hz HZ HD
        rcases HM.out with ⟨rfl, m0, m1, m2, m3⟩ | ⟨rfl, rfl⟩
        · go_wp2_with fail
          go_ret
          exact ⟨rfl, HK.out⟩
        · go_wp2_with fail
          go_ret
          exact ⟨rfl, HK.out⟩

end Go.Proofs.YtikkpfaeenekbaaDoor
