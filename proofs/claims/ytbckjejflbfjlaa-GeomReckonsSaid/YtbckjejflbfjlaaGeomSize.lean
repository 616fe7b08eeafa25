/-
  What package geom's Size answers.
-/
import Derived.Test.YtbckjejflbfjlaaGeomApply
import Derived.Test.YtbckjejflbfjlaaGeomRectMath
namespace Go.Proofs.Ytbckjejflbfjlaa
open Go.RowKit

set_option maxHeartbeats 1000000 in
theorem Size_1 (a b c d : Int) (w : World) (h1 : ¬ Fx.subE (max a c) (min a c) = 0) :
    Calls Try.prog 21 #[.agg #[.int .i64 a, .int .i64 b, .int .i64 c, .int .i64 d]] w fun e w' => e = .returned (.tuple #[.int .i64 (Gm.sizW (min a c) (min b d) (max a c) (max b d)), .int .i64 (Gm.sizH (min a c) (min b d) (max a c) (max b d)), .int .i64 (Gm.sizE (min a c) (min b d) (max a c) (max b d))]) ∧ Kept w w' := by
  have H := Lib.hid (Gm.siz_1 (b := min b d) (d := max b d) h1)
  have t1 := ne_yes h1
  clear h1
  go_enter Try.func21, Try.ntmps21
  go_wp2_with fail
  refine (Norm_any a b c d _).mono ?_
  rintro e w1 ⟨rfl, k1⟩
  obtain ⟨c1, f1⟩ := k1.cells
  have z1 : w.heap.size < w1.heap.size := by have := Below.size k1; simp at this; omega
  go_wp2_with fail
  refine (Sub_any _ _ _).mono ?_
  rintro e w2 ⟨rfl, k2⟩
  obtain ⟨c2, f2⟩ := k2.cells
  go_wp2_with fail
  go_ret3
  exact ⟨ret_ints3 H.out.1.symm H.out.2.1.symm H.out.2.2.symm, (((((((Kept.refl w).alloc _ _).trans k1).set (by omega) _).set (by omega) _).set (by omega) _).set (by omega) _).trans k2⟩

set_option maxHeartbeats 1000000 in
theorem Size_2 (a b c d : Int) (w : World) (h1 : Fx.subE (max a c) (min a c) = 0) (h2 : ¬ Fx.subE (max b d) (min b d) = 0) :
    Calls Try.prog 21 #[.agg #[.int .i64 a, .int .i64 b, .int .i64 c, .int .i64 d]] w fun e w' => e = .returned (.tuple #[.int .i64 (Gm.sizW (min a c) (min b d) (max a c) (max b d)), .int .i64 (Gm.sizH (min a c) (min b d) (max a c) (max b d)), .int .i64 (Gm.sizE (min a c) (min b d) (max a c) (max b d))]) ∧ Kept w w' := by
  have H := Lib.hid (Gm.siz_2 h1 h2)
  have t1 := ne_no h1
  have t2 := ne_yes h2
  clear h1 h2
  go_enter Try.func21, Try.ntmps21
  go_wp2_with fail
  refine (Norm_any a b c d _).mono ?_
  rintro e w1 ⟨rfl, k1⟩
  obtain ⟨c1, f1⟩ := k1.cells
  have z1 : w.heap.size < w1.heap.size := by have := Below.size k1; simp at this; omega
  go_wp2_with fail
  refine (Sub_any _ _ _).mono ?_
  rintro e w2 ⟨rfl, k2⟩
  obtain ⟨c2, f2⟩ := k2.cells
  go_wp2_with fail
  refine (Sub_any _ _ _).mono ?_
  rintro e w3 ⟨rfl, k3⟩
  go_wp2_with fail
  go_ret3
  exact ⟨ret_ints3 H.out.1.symm H.out.2.1.symm H.out.2.2.symm, ((((((((Kept.refl w).alloc _ _).trans k1).set (by omega) _).set (by omega) _).set (by omega) _).set (by omega) _).trans k2).trans k3⟩

set_option maxHeartbeats 1000000 in
theorem Size_3 (a b c d : Int) (w : World) (h1 : Fx.subE (max a c) (min a c) = 0) (h2 : Fx.subE (max b d) (min b d) = 0) :
    Calls Try.prog 21 #[.agg #[.int .i64 a, .int .i64 b, .int .i64 c, .int .i64 d]] w fun e w' => e = .returned (.tuple #[.int .i64 (Gm.sizW (min a c) (min b d) (max a c) (max b d)), .int .i64 (Gm.sizH (min a c) (min b d) (max a c) (max b d)), .int .i64 (Gm.sizE (min a c) (min b d) (max a c) (max b d))]) ∧ Kept w w' := by
  have H := Lib.hid (Gm.siz_3 h1 h2)
  have t1 := ne_no h1
  have t2 := ne_no h2
  clear h1 h2
  go_enter Try.func21, Try.ntmps21
  go_wp2_with fail
  refine (Norm_any a b c d _).mono ?_
  rintro e w1 ⟨rfl, k1⟩
  obtain ⟨c1, f1⟩ := k1.cells
  have z1 : w.heap.size < w1.heap.size := by have := Below.size k1; simp at this; omega
  go_wp2_with fail
  refine (Sub_any _ _ _).mono ?_
  rintro e w2 ⟨rfl, k2⟩
  obtain ⟨c2, f2⟩ := k2.cells
  go_wp2_with fail
  refine (Sub_any _ _ _).mono ?_
  rintro e w3 ⟨rfl, k3⟩
  go_wp2_with fail
  go_ret3
  exact ⟨ret_ints3 H.out.1.symm H.out.2.1.symm H.out.2.2.symm, ((((((((Kept.refl w).alloc _ _).trans k1).set (by omega) _).set (by omega) _).set (by omega) _).set (by omega) _).trans k2).trans k3⟩

theorem Size_any (a b c d : Int) (w : World) :
    Calls Try.prog 21 #[.agg #[.int .i64 a, .int .i64 b, .int .i64 c, .int .i64 d]] w fun e w' => e = .returned (.tuple #[.int .i64 (Gm.sizW (min a c) (min b d) (max a c) (max b d)), .int .i64 (Gm.sizH (min a c) (min b d) (max a c) (max b d)), .int .i64 (Gm.sizE (min a c) (min b d) (max a c) (max b d))]) ∧ Kept w w' := by
  by_cases h1 : Fx.subE (max a c) (min a c) = 0
  · by_cases h2 : Fx.subE (max b d) (min b d) = 0
    · exact Size_3 a b c d w h1 h2
    · exact Size_2 a b c d w h1 h2
  · exact Size_1 a b c d w h1

end Go.Proofs.Ytbckjejflbfjlaa
