/-
  What package geom's Apply and shift answer.
-/
import Derived.Test.YtbckjejflbfjlaaGeomWalks
namespace Go.Proofs.Ytbckjejflbfjlaa
open Go.RowKit

set_option maxHeartbeats 1000000 in
theorem Apply_any (m0 m1 m2 m3 m4 m5 x y : Int) (w : World) :
    Calls Try.prog 13 #[.agg #[.int .i64 m0, .int .i64 m1, .int .i64 m2, .int .i64 m3, .int .i64 m4, .int .i64 m5], .int .i64 x, .int .i64 y] w fun e w' => e = .returned (.tuple #[.int .i64 (Gm.appX m0 m1 m2 m3 m4 m5 x y), .int .i64 (Gm.appY m0 m1 m2 m3 m4 m5 x y), .int .i64 (Gm.appE m0 m1 m2 m3 m4 m5 x y)]) ∧ Kept w w' := by
  by_cases h1 : Gm.plsE x m0 y m2 m4 = 0
  · by_cases h2 : Gm.plsE x m1 y m3 m5 = 0
    · have H := Lib.hid (Gm.app_3 h1 h2)
      have t1 := ne_no h1
      have t2 := ne_no h2
      clear h1 h2
      go_enter Try.func13, Try.ntmps13
      go_wp2_with fail
      refine (moved_0 m0 m1 m2 m3 m4 m5 _ _ _).mono ?_
      rintro e w1 ⟨rfl, k1⟩
      obtain ⟨c1, f1⟩ := k1.cells
      go_wp2_with fail
      refine (moved_1 m0 m1 m2 m3 m4 m5 _ _ _).mono ?_
      rintro e w2 ⟨rfl, k2⟩
      go_wp2_with fail
      go_ret3
      exact ⟨ret_ints3 H.out.1.symm H.out.2.1.symm H.out.2.2.symm, (((Kept.refl _).alloc _ _).trans k1).trans k2⟩
    · have H := Lib.hid (Gm.app_2 h1 h2)
      have t1 := ne_no h1
      have t2 := ne_yes h2
      clear h1 h2
      go_enter Try.func13, Try.ntmps13
      go_wp2_with fail
      refine (moved_0 m0 m1 m2 m3 m4 m5 _ _ _).mono ?_
      rintro e w1 ⟨rfl, k1⟩
      obtain ⟨c1, f1⟩ := k1.cells
      go_wp2_with fail
      refine (moved_1 m0 m1 m2 m3 m4 m5 _ _ _).mono ?_
      rintro e w2 ⟨rfl, k2⟩
      go_wp2_with fail
      go_ret3
      exact ⟨ret_ints3 H.out.1.symm H.out.2.1.symm H.out.2.2.symm, (((Kept.refl _).alloc _ _).trans k1).trans k2⟩
  · have H := Lib.hid (Gm.app_1 (m1 := m1) (m3 := m3) (m5 := m5) h1)
    have t1 := ne_yes h1
    clear h1
    go_enter Try.func13, Try.ntmps13
    go_wp2_with fail
    refine (moved_0 m0 m1 m2 m3 m4 m5 _ _ _).mono ?_
    rintro e w1 ⟨rfl, k1⟩
    go_wp2_with fail
    go_ret3
    exact ⟨ret_ints3 H.out.1.symm H.out.2.1.symm H.out.2.2.symm, ((Kept.refl _).alloc _ _).trans k1⟩

set_option maxHeartbeats 1000000 in
theorem shift_any (t f s : Int) (w : World) :
    Calls Try.prog 39 #[.int .i64 t, .int .i64 f, .int .i64 s] w fun e w' => e = .returned (.tuple #[.int .i64 (Gm.shiV t f s), .int .i64 (Gm.shiE t f s)]) ∧ Kept w w' := by
  by_cases h1 : Fx.mulE f s = 0
  · have H := Lib.hid (Gm.shi_2 (t := t) h1)
    have t1 := ne_no h1
    clear h1
    go_enter Try.func39, Try.ntmps39
    go_wp2_with fail
    refine (Mul_any _ _ _).mono ?_
    rintro e w1 ⟨rfl, k1⟩
    go_wp2_with fail
    refine (Sub_any _ _ _).mono ?_
    rintro e w2 ⟨rfl, k2⟩
    go_wp2_with fail
    go_ret2
    exact ⟨ret_ints H.out.1.symm H.out.2.symm, k1.trans k2⟩
  · have H := Lib.hid (Gm.shi_1 (t := t) h1)
    have t1 := ne_yes h1
    clear h1
    go_enter Try.func39, Try.ntmps39
    go_wp2_with fail
    refine (Mul_any _ _ _).mono ?_
    rintro e w1 ⟨rfl, k1⟩
    go_wp2_with fail
    go_ret2
    exact ⟨ret_ints H.out.1.symm H.out.2.symm, k1⟩

end Go.Proofs.Ytbckjejflbfjlaa
