/-
  What package geom's Mul answers: a matrix behind another one.
-/
import Derived.Test.YtbckjejflbfjlaaGeomCells
import Derived.LoopN
namespace Go.Proofs.Ytbckjejflbfjlaa
open Go.RowKit

set_option maxHeartbeats 2000000 in
theorem Mul_case0 (m0 m1 m2 m3 m4 m5 n0 n1 n2 n3 n4 n5 : Int) (w : World)  (h0 : ¬ Gm.twoE m0 n0 m1 n2 = 0) :
    Calls Try.prog 11 #[.agg #[.int .i64 m0, .int .i64 m1, .int .i64 m2, .int .i64 m3, .int .i64 m4, .int .i64 m5], .agg #[.int .i64 n0, .int .i64 n1, .int .i64 n2, .int .i64 n3, .int .i64 n4, .int .i64 n5]] w fun e w' => e = .returned (.tuple #[.agg #[.int .i64 0, .int .i64 0, .int .i64 0, .int .i64 0, .int .i64 0, .int .i64 0], .int .i64 (Gm.twoE m0 n0 m1 n2)]) ∧ Kept w w' := by
  have t0 := ne_yes h0
  clear h0
  go_enter Try.func11, Try.ntmps11
  go_wp2_with fail
  refine wp_loop_rounds 7 ?_
  rw [rounds_succ]
  go_wp2_with fail
  refine (cell_0 m0 m1 m2 m3 m4 m5 n0 n1 n2 n3 n4 n5 _).mono ?_
  rintro e w1 ⟨rfl, k1⟩
  obtain ⟨c1, f1⟩ := k1.cells
  obtain ⟨z1, y1, x1, v1⟩ : w.heap.size < w1.heap.size ∧ w.heap.size + 1 < w1.heap.size ∧ w.heap.size + 1 + 1 < w1.heap.size ∧ w.heap.size + 1 + 1 + 1 < w1.heap.size := by have := Below.size k1; simp at this; omega
  go_wp2_with fail
  refine bodyPost_ret (v := .tuple #[.agg #[.int .i64 0, .int .i64 0, .int .i64 0, .int .i64 0, .int .i64 0, .int .i64 0], .int .i64 (Gm.twoE m0 n0 m1 n2)]) ?_ rfl ⟨rfl, ?_⟩
  · simp [results, Try.results11, go_sem, c1]
  · exact (((((((((((Kept.refl w).alloc _ _).alloc _ _).alloc _ _).alloc _ _).trans k1).set (by omega) _).set (by omega) _).set (by omega) _).set (by omega) _).set (by omega) _).set (by omega) _

set_option maxHeartbeats 2000000 in
theorem Mul_case1 (m0 m1 m2 m3 m4 m5 n0 n1 n2 n3 n4 n5 : Int) (w : World) (h0 : Gm.twoE m0 n0 m1 n2 = 0) (h1 : ¬ Gm.twoE m0 n1 m1 n3 = 0) :
    Calls Try.prog 11 #[.agg #[.int .i64 m0, .int .i64 m1, .int .i64 m2, .int .i64 m3, .int .i64 m4, .int .i64 m5], .agg #[.int .i64 n0, .int .i64 n1, .int .i64 n2, .int .i64 n3, .int .i64 n4, .int .i64 n5]] w fun e w' => e = .returned (.tuple #[.agg #[.int .i64 0, .int .i64 0, .int .i64 0, .int .i64 0, .int .i64 0, .int .i64 0], .int .i64 (Gm.twoE m0 n1 m1 n3)]) ∧ Kept w w' := by
  have t0 := ne_no h0
  have t1 := ne_yes h1
  clear h0 h1
  go_enter Try.func11, Try.ntmps11
  go_wp2_with fail
  refine wp_loop_rounds 7 ?_
  rw [rounds_succ]
  go_wp2_with fail
  refine (cell_0 m0 m1 m2 m3 m4 m5 n0 n1 n2 n3 n4 n5 _).mono ?_
  rintro e w1 ⟨rfl, k1⟩
  obtain ⟨c1, f1⟩ := k1.cells
  obtain ⟨z1, y1, x1, v1⟩ : w.heap.size < w1.heap.size ∧ w.heap.size + 1 < w1.heap.size ∧ w.heap.size + 1 + 1 < w1.heap.size ∧ w.heap.size + 1 + 1 + 1 < w1.heap.size := by have := Below.size k1; simp at this; omega
  go_wp2_with fail
  rw [rounds_succ]
  go_wp2_with fail
  refine (cell_1 m0 m1 m2 m3 m4 m5 n0 n1 n2 n3 n4 n5 _).mono ?_
  rintro e w2 ⟨rfl, k2⟩
  obtain ⟨c2, f2⟩ := k2.cells
  obtain ⟨z2, y2, x2, v2⟩ : w.heap.size < w2.heap.size ∧ w.heap.size + 1 < w2.heap.size ∧ w.heap.size + 1 + 1 < w2.heap.size ∧ w.heap.size + 1 + 1 + 1 < w2.heap.size := by have := Below.size k2; simp at this; omega
  go_wp2_with fail
  refine bodyPost_ret (v := .tuple #[.agg #[.int .i64 0, .int .i64 0, .int .i64 0, .int .i64 0, .int .i64 0, .int .i64 0], .int .i64 (Gm.twoE m0 n1 m1 n3)]) ?_ rfl ⟨rfl, ?_⟩
  · simp [results, Try.results11, go_sem, c2, c1, x1]
  · exact (((((((((((((Kept.refl w).alloc _ _).alloc _ _).alloc _ _).alloc _ _).trans k1).set (by omega) _).trans k2).set (by omega) _).set (by omega) _).set (by omega) _).set (by omega) _).set (by omega) _).set (by omega) _

set_option maxHeartbeats 2000000 in
theorem Mul_case2 (m0 m1 m2 m3 m4 m5 n0 n1 n2 n3 n4 n5 : Int) (w : World) (h0 : Gm.twoE m0 n0 m1 n2 = 0) (h1 : Gm.twoE m0 n1 m1 n3 = 0) (h2 : ¬ Gm.twoE m2 n0 m3 n2 = 0) :
    Calls Try.prog 11 #[.agg #[.int .i64 m0, .int .i64 m1, .int .i64 m2, .int .i64 m3, .int .i64 m4, .int .i64 m5], .agg #[.int .i64 n0, .int .i64 n1, .int .i64 n2, .int .i64 n3, .int .i64 n4, .int .i64 n5]] w fun e w' => e = .returned (.tuple #[.agg #[.int .i64 0, .int .i64 0, .int .i64 0, .int .i64 0, .int .i64 0, .int .i64 0], .int .i64 (Gm.twoE m2 n0 m3 n2)]) ∧ Kept w w' := by
  have t0 := ne_no h0
  have t1 := ne_no h1
  have t2 := ne_yes h2
  clear h0 h1 h2
  go_enter Try.func11, Try.ntmps11
  go_wp2_with fail
  refine wp_loop_rounds 7 ?_
  rw [rounds_succ]
  go_wp2_with fail
  refine (cell_0 m0 m1 m2 m3 m4 m5 n0 n1 n2 n3 n4 n5 _).mono ?_
  rintro e w1 ⟨rfl, k1⟩
  obtain ⟨c1, f1⟩ := k1.cells
  obtain ⟨z1, y1, x1, v1⟩ : w.heap.size < w1.heap.size ∧ w.heap.size + 1 < w1.heap.size ∧ w.heap.size + 1 + 1 < w1.heap.size ∧ w.heap.size + 1 + 1 + 1 < w1.heap.size := by have := Below.size k1; simp at this; omega
  go_wp2_with fail
  rw [rounds_succ]
  go_wp2_with fail
  refine (cell_1 m0 m1 m2 m3 m4 m5 n0 n1 n2 n3 n4 n5 _).mono ?_
  rintro e w2 ⟨rfl, k2⟩
  obtain ⟨c2, f2⟩ := k2.cells
  obtain ⟨z2, y2, x2, v2⟩ : w.heap.size < w2.heap.size ∧ w.heap.size + 1 < w2.heap.size ∧ w.heap.size + 1 + 1 < w2.heap.size ∧ w.heap.size + 1 + 1 + 1 < w2.heap.size := by have := Below.size k2; simp at this; omega
  go_wp2_with fail
  rw [rounds_succ]
  go_wp2_with fail
  refine (cell_2 m0 m1 m2 m3 m4 m5 n0 n1 n2 n3 n4 n5 _).mono ?_
  rintro e w3 ⟨rfl, k3⟩
  obtain ⟨c3, f3⟩ := k3.cells
  obtain ⟨z3, y3, x3, v3⟩ : w.heap.size < w3.heap.size ∧ w.heap.size + 1 < w3.heap.size ∧ w.heap.size + 1 + 1 < w3.heap.size ∧ w.heap.size + 1 + 1 + 1 < w3.heap.size := by have := Below.size k3; simp at this; omega
  go_wp2_with fail
  refine bodyPost_ret (v := .tuple #[.agg #[.int .i64 0, .int .i64 0, .int .i64 0, .int .i64 0, .int .i64 0, .int .i64 0], .int .i64 (Gm.twoE m2 n0 m3 n2)]) ?_ rfl ⟨rfl, ?_⟩
  · simp [results, Try.results11, go_sem, c3, c2, c1, x2, x1]
  · exact (((((((((((((((Kept.refl w).alloc _ _).alloc _ _).alloc _ _).alloc _ _).trans k1).set (by omega) _).trans k2).set (by omega) _).trans k3).set (by omega) _).set (by omega) _).set (by omega) _).set (by omega) _).set (by omega) _).set (by omega) _

set_option maxHeartbeats 2000000 in
theorem Mul_case3 (m0 m1 m2 m3 m4 m5 n0 n1 n2 n3 n4 n5 : Int) (w : World) (h0 : Gm.twoE m0 n0 m1 n2 = 0) (h1 : Gm.twoE m0 n1 m1 n3 = 0) (h2 : Gm.twoE m2 n0 m3 n2 = 0) (h3 : ¬ Gm.twoE m2 n1 m3 n3 = 0) :
    Calls Try.prog 11 #[.agg #[.int .i64 m0, .int .i64 m1, .int .i64 m2, .int .i64 m3, .int .i64 m4, .int .i64 m5], .agg #[.int .i64 n0, .int .i64 n1, .int .i64 n2, .int .i64 n3, .int .i64 n4, .int .i64 n5]] w fun e w' => e = .returned (.tuple #[.agg #[.int .i64 0, .int .i64 0, .int .i64 0, .int .i64 0, .int .i64 0, .int .i64 0], .int .i64 (Gm.twoE m2 n1 m3 n3)]) ∧ Kept w w' := by
  have t0 := ne_no h0
  have t1 := ne_no h1
  have t2 := ne_no h2
  have t3 := ne_yes h3
  clear h0 h1 h2 h3
  go_enter Try.func11, Try.ntmps11
  go_wp2_with fail
  refine wp_loop_rounds 7 ?_
  rw [rounds_succ]
  go_wp2_with fail
  refine (cell_0 m0 m1 m2 m3 m4 m5 n0 n1 n2 n3 n4 n5 _).mono ?_
  rintro e w1 ⟨rfl, k1⟩
  obtain ⟨c1, f1⟩ := k1.cells
  obtain ⟨z1, y1, x1, v1⟩ : w.heap.size < w1.heap.size ∧ w.heap.size + 1 < w1.heap.size ∧ w.heap.size + 1 + 1 < w1.heap.size ∧ w.heap.size + 1 + 1 + 1 < w1.heap.size := by have := Below.size k1; simp at this; omega
  go_wp2_with fail
  rw [rounds_succ]
  go_wp2_with fail
  refine (cell_1 m0 m1 m2 m3 m4 m5 n0 n1 n2 n3 n4 n5 _).mono ?_
  rintro e w2 ⟨rfl, k2⟩
  obtain ⟨c2, f2⟩ := k2.cells
  obtain ⟨z2, y2, x2, v2⟩ : w.heap.size < w2.heap.size ∧ w.heap.size + 1 < w2.heap.size ∧ w.heap.size + 1 + 1 < w2.heap.size ∧ w.heap.size + 1 + 1 + 1 < w2.heap.size := by have := Below.size k2; simp at this; omega
  go_wp2_with fail
  rw [rounds_succ]
  go_wp2_with fail
  refine (cell_2 m0 m1 m2 m3 m4 m5 n0 n1 n2 n3 n4 n5 _).mono ?_
  rintro e w3 ⟨rfl, k3⟩
  obtain ⟨c3, f3⟩ := k3.cells
  obtain ⟨z3, y3, x3, v3⟩ : w.heap.size < w3.heap.size ∧ w.heap.size + 1 < w3.heap.size ∧ w.heap.size + 1 + 1 < w3.heap.size ∧ w.heap.size + 1 + 1 + 1 < w3.heap.size := by have := Below.size k3; simp at this; omega
  go_wp2_with fail
  rw [rounds_succ]
  go_wp2_with fail
  refine (cell_3 m0 m1 m2 m3 m4 m5 n0 n1 n2 n3 n4 n5 _).mono ?_
  rintro e w4 ⟨rfl, k4⟩
  obtain ⟨c4, f4⟩ := k4.cells
  obtain ⟨z4, y4, x4, v4⟩ : w.heap.size < w4.heap.size ∧ w.heap.size + 1 < w4.heap.size ∧ w.heap.size + 1 + 1 < w4.heap.size ∧ w.heap.size + 1 + 1 + 1 < w4.heap.size := by have := Below.size k4; simp at this; omega
  go_wp2_with fail
  refine bodyPost_ret (v := .tuple #[.agg #[.int .i64 0, .int .i64 0, .int .i64 0, .int .i64 0, .int .i64 0, .int .i64 0], .int .i64 (Gm.twoE m2 n1 m3 n3)]) ?_ rfl ⟨rfl, ?_⟩
  · simp [results, Try.results11, go_sem, c4, c3, c2, c1, x3, x2, x1]
  · exact (((((((((((((((((Kept.refl w).alloc _ _).alloc _ _).alloc _ _).alloc _ _).trans k1).set (by omega) _).trans k2).set (by omega) _).trans k3).set (by omega) _).trans k4).set (by omega) _).set (by omega) _).set (by omega) _).set (by omega) _).set (by omega) _).set (by omega) _

set_option maxHeartbeats 2000000 in
theorem Mul_case4 (m0 m1 m2 m3 m4 m5 n0 n1 n2 n3 n4 n5 : Int) (w : World) (h0 : Gm.twoE m0 n0 m1 n2 = 0) (h1 : Gm.twoE m0 n1 m1 n3 = 0) (h2 : Gm.twoE m2 n0 m3 n2 = 0) (h3 : Gm.twoE m2 n1 m3 n3 = 0) (h4 : ¬ Gm.plsE m4 n0 m5 n2 n4 = 0) :
    Calls Try.prog 11 #[.agg #[.int .i64 m0, .int .i64 m1, .int .i64 m2, .int .i64 m3, .int .i64 m4, .int .i64 m5], .agg #[.int .i64 n0, .int .i64 n1, .int .i64 n2, .int .i64 n3, .int .i64 n4, .int .i64 n5]] w fun e w' => e = .returned (.tuple #[.agg #[.int .i64 0, .int .i64 0, .int .i64 0, .int .i64 0, .int .i64 0, .int .i64 0], .int .i64 (Gm.plsE m4 n0 m5 n2 n4)]) ∧ Kept w w' := by
  have t0 := ne_no h0
  have t1 := ne_no h1
  have t2 := ne_no h2
  have t3 := ne_no h3
  have t4 := ne_yes h4
  clear h0 h1 h2 h3 h4
  go_enter Try.func11, Try.ntmps11
  go_wp2_with fail
  refine wp_loop_rounds 7 ?_
  rw [rounds_succ]
  go_wp2_with fail
  refine (cell_0 m0 m1 m2 m3 m4 m5 n0 n1 n2 n3 n4 n5 _).mono ?_
  rintro e w1 ⟨rfl, k1⟩
  obtain ⟨c1, f1⟩ := k1.cells
  obtain ⟨z1, y1, x1, v1⟩ : w.heap.size < w1.heap.size ∧ w.heap.size + 1 < w1.heap.size ∧ w.heap.size + 1 + 1 < w1.heap.size ∧ w.heap.size + 1 + 1 + 1 < w1.heap.size := by have := Below.size k1; simp at this; omega
  go_wp2_with fail
  rw [rounds_succ]
  go_wp2_with fail
  refine (cell_1 m0 m1 m2 m3 m4 m5 n0 n1 n2 n3 n4 n5 _).mono ?_
  rintro e w2 ⟨rfl, k2⟩
  obtain ⟨c2, f2⟩ := k2.cells
  obtain ⟨z2, y2, x2, v2⟩ : w.heap.size < w2.heap.size ∧ w.heap.size + 1 < w2.heap.size ∧ w.heap.size + 1 + 1 < w2.heap.size ∧ w.heap.size + 1 + 1 + 1 < w2.heap.size := by have := Below.size k2; simp at this; omega
  go_wp2_with fail
  rw [rounds_succ]
  go_wp2_with fail
  refine (cell_2 m0 m1 m2 m3 m4 m5 n0 n1 n2 n3 n4 n5 _).mono ?_
  rintro e w3 ⟨rfl, k3⟩
  obtain ⟨c3, f3⟩ := k3.cells
  obtain ⟨z3, y3, x3, v3⟩ : w.heap.size < w3.heap.size ∧ w.heap.size + 1 < w3.heap.size ∧ w.heap.size + 1 + 1 < w3.heap.size ∧ w.heap.size + 1 + 1 + 1 < w3.heap.size := by have := Below.size k3; simp at this; omega
  go_wp2_with fail
  rw [rounds_succ]
  go_wp2_with fail
  refine (cell_3 m0 m1 m2 m3 m4 m5 n0 n1 n2 n3 n4 n5 _).mono ?_
  rintro e w4 ⟨rfl, k4⟩
  obtain ⟨c4, f4⟩ := k4.cells
  obtain ⟨z4, y4, x4, v4⟩ : w.heap.size < w4.heap.size ∧ w.heap.size + 1 < w4.heap.size ∧ w.heap.size + 1 + 1 < w4.heap.size ∧ w.heap.size + 1 + 1 + 1 < w4.heap.size := by have := Below.size k4; simp at this; omega
  go_wp2_with fail
  rw [rounds_succ]
  go_wp2_with fail
  refine (cell_4 m0 m1 m2 m3 m4 m5 n0 n1 n2 n3 n4 n5 _).mono ?_
  rintro e w5 ⟨rfl, k5⟩
  obtain ⟨c5, f5⟩ := k5.cells
  obtain ⟨z5, y5, x5, v5⟩ : w.heap.size < w5.heap.size ∧ w.heap.size + 1 < w5.heap.size ∧ w.heap.size + 1 + 1 < w5.heap.size ∧ w.heap.size + 1 + 1 + 1 < w5.heap.size := by have := Below.size k5; simp at this; omega
  go_wp2_with fail
  refine bodyPost_ret (v := .tuple #[.agg #[.int .i64 0, .int .i64 0, .int .i64 0, .int .i64 0, .int .i64 0, .int .i64 0], .int .i64 (Gm.plsE m4 n0 m5 n2 n4)]) ?_ rfl ⟨rfl, ?_⟩
  · simp [results, Try.results11, go_sem, c5, c4, c3, c2, c1, x4, x3, x2, x1]
  · exact (((((((((((((((((((Kept.refl w).alloc _ _).alloc _ _).alloc _ _).alloc _ _).trans k1).set (by omega) _).trans k2).set (by omega) _).trans k3).set (by omega) _).trans k4).set (by omega) _).trans k5).set (by omega) _).set (by omega) _).set (by omega) _).set (by omega) _).set (by omega) _).set (by omega) _

set_option maxHeartbeats 2000000 in
theorem Mul_case5 (m0 m1 m2 m3 m4 m5 n0 n1 n2 n3 n4 n5 : Int) (w : World) (h0 : Gm.twoE m0 n0 m1 n2 = 0) (h1 : Gm.twoE m0 n1 m1 n3 = 0) (h2 : Gm.twoE m2 n0 m3 n2 = 0) (h3 : Gm.twoE m2 n1 m3 n3 = 0) (h4 : Gm.plsE m4 n0 m5 n2 n4 = 0) (h5 : ¬ Gm.plsE m4 n1 m5 n3 n5 = 0) :
    Calls Try.prog 11 #[.agg #[.int .i64 m0, .int .i64 m1, .int .i64 m2, .int .i64 m3, .int .i64 m4, .int .i64 m5], .agg #[.int .i64 n0, .int .i64 n1, .int .i64 n2, .int .i64 n3, .int .i64 n4, .int .i64 n5]] w fun e w' => e = .returned (.tuple #[.agg #[.int .i64 0, .int .i64 0, .int .i64 0, .int .i64 0, .int .i64 0, .int .i64 0], .int .i64 (Gm.plsE m4 n1 m5 n3 n5)]) ∧ Kept w w' := by
  have t0 := ne_no h0
  have t1 := ne_no h1
  have t2 := ne_no h2
  have t3 := ne_no h3
  have t4 := ne_no h4
  have t5 := ne_yes h5
  clear h0 h1 h2 h3 h4 h5
  go_enter Try.func11, Try.ntmps11
  go_wp2_with fail
  refine wp_loop_rounds 7 ?_
  rw [rounds_succ]
  go_wp2_with fail
  refine (cell_0 m0 m1 m2 m3 m4 m5 n0 n1 n2 n3 n4 n5 _).mono ?_
  rintro e w1 ⟨rfl, k1⟩
  obtain ⟨c1, f1⟩ := k1.cells
  obtain ⟨z1, y1, x1, v1⟩ : w.heap.size < w1.heap.size ∧ w.heap.size + 1 < w1.heap.size ∧ w.heap.size + 1 + 1 < w1.heap.size ∧ w.heap.size + 1 + 1 + 1 < w1.heap.size := by have := Below.size k1; simp at this; omega
  go_wp2_with fail
  rw [rounds_succ]
  go_wp2_with fail
  refine (cell_1 m0 m1 m2 m3 m4 m5 n0 n1 n2 n3 n4 n5 _).mono ?_
  rintro e w2 ⟨rfl, k2⟩
  obtain ⟨c2, f2⟩ := k2.cells
  obtain ⟨z2, y2, x2, v2⟩ : w.heap.size < w2.heap.size ∧ w.heap.size + 1 < w2.heap.size ∧ w.heap.size + 1 + 1 < w2.heap.size ∧ w.heap.size + 1 + 1 + 1 < w2.heap.size := by have := Below.size k2; simp at this; omega
  go_wp2_with fail
  rw [rounds_succ]
  go_wp2_with fail
  refine (cell_2 m0 m1 m2 m3 m4 m5 n0 n1 n2 n3 n4 n5 _).mono ?_
  rintro e w3 ⟨rfl, k3⟩
  obtain ⟨c3, f3⟩ := k3.cells
  obtain ⟨z3, y3, x3, v3⟩ : w.heap.size < w3.heap.size ∧ w.heap.size + 1 < w3.heap.size ∧ w.heap.size + 1 + 1 < w3.heap.size ∧ w.heap.size + 1 + 1 + 1 < w3.heap.size := by have := Below.size k3; simp at this; omega
  go_wp2_with fail
  rw [rounds_succ]
  go_wp2_with fail
  refine (cell_3 m0 m1 m2 m3 m4 m5 n0 n1 n2 n3 n4 n5 _).mono ?_
  rintro e w4 ⟨rfl, k4⟩
  obtain ⟨c4, f4⟩ := k4.cells
  obtain ⟨z4, y4, x4, v4⟩ : w.heap.size < w4.heap.size ∧ w.heap.size + 1 < w4.heap.size ∧ w.heap.size + 1 + 1 < w4.heap.size ∧ w.heap.size + 1 + 1 + 1 < w4.heap.size := by have := Below.size k4; simp at this; omega
  go_wp2_with fail
  rw [rounds_succ]
  go_wp2_with fail
  refine (cell_4 m0 m1 m2 m3 m4 m5 n0 n1 n2 n3 n4 n5 _).mono ?_
  rintro e w5 ⟨rfl, k5⟩
  obtain ⟨c5, f5⟩ := k5.cells
  obtain ⟨z5, y5, x5, v5⟩ : w.heap.size < w5.heap.size ∧ w.heap.size + 1 < w5.heap.size ∧ w.heap.size + 1 + 1 < w5.heap.size ∧ w.heap.size + 1 + 1 + 1 < w5.heap.size := by have := Below.size k5; simp at this; omega
  go_wp2_with fail
  rw [rounds_succ]
  go_wp2_with fail
  refine (cell_5 m0 m1 m2 m3 m4 m5 n0 n1 n2 n3 n4 n5 _).mono ?_
  rintro e w6 ⟨rfl, k6⟩
  obtain ⟨c6, f6⟩ := k6.cells
  obtain ⟨z6, y6, x6, v6⟩ : w.heap.size < w6.heap.size ∧ w.heap.size + 1 < w6.heap.size ∧ w.heap.size + 1 + 1 < w6.heap.size ∧ w.heap.size + 1 + 1 + 1 < w6.heap.size := by have := Below.size k6; simp at this; omega
  go_wp2_with fail
  refine bodyPost_ret (v := .tuple #[.agg #[.int .i64 0, .int .i64 0, .int .i64 0, .int .i64 0, .int .i64 0, .int .i64 0], .int .i64 (Gm.plsE m4 n1 m5 n3 n5)]) ?_ rfl ⟨rfl, ?_⟩
  · simp [results, Try.results11, go_sem, c6, c5, c4, c3, c2, c1, x5, x4, x3, x2, x1]
  · exact (((((((((((((((((((((Kept.refl w).alloc _ _).alloc _ _).alloc _ _).alloc _ _).trans k1).set (by omega) _).trans k2).set (by omega) _).trans k3).set (by omega) _).trans k4).set (by omega) _).trans k5).set (by omega) _).trans k6).set (by omega) _).set (by omega) _).set (by omega) _).set (by omega) _).set (by omega) _).set (by omega) _

set_option maxHeartbeats 2000000 in
theorem Mul_case6 (m0 m1 m2 m3 m4 m5 n0 n1 n2 n3 n4 n5 : Int) (w : World) (h0 : Gm.twoE m0 n0 m1 n2 = 0) (h1 : Gm.twoE m0 n1 m1 n3 = 0) (h2 : Gm.twoE m2 n0 m3 n2 = 0) (h3 : Gm.twoE m2 n1 m3 n3 = 0) (h4 : Gm.plsE m4 n0 m5 n2 n4 = 0) (h5 : Gm.plsE m4 n1 m5 n3 n5 = 0) :
    Calls Try.prog 11 #[.agg #[.int .i64 m0, .int .i64 m1, .int .i64 m2, .int .i64 m3, .int .i64 m4, .int .i64 m5], .agg #[.int .i64 n0, .int .i64 n1, .int .i64 n2, .int .i64 n3, .int .i64 n4, .int .i64 n5]] w fun e w' => e = .returned (.tuple #[.agg #[.int .i64 (Gm.twoV m0 n0 m1 n2), .int .i64 (Gm.twoV m0 n1 m1 n3), .int .i64 (Gm.twoV m2 n0 m3 n2), .int .i64 (Gm.twoV m2 n1 m3 n3), .int .i64 (Gm.plsV m4 n0 m5 n2 n4), .int .i64 (Gm.plsV m4 n1 m5 n3 n5)], .int .i64 0]) ∧ Kept w w' := by
  have t0 := ne_no h0
  have t1 := ne_no h1
  have t2 := ne_no h2
  have t3 := ne_no h3
  have t4 := ne_no h4
  have t5 := ne_no h5
  clear h0 h1 h2 h3 h4 h5
  go_enter Try.func11, Try.ntmps11
  go_wp2_with fail
  refine wp_loop_rounds 7 ?_
  rw [rounds_succ]
  go_wp2_with fail
  refine (cell_0 m0 m1 m2 m3 m4 m5 n0 n1 n2 n3 n4 n5 _).mono ?_
  rintro e w1 ⟨rfl, k1⟩
  obtain ⟨c1, f1⟩ := k1.cells
  obtain ⟨z1, y1, x1, v1⟩ : w.heap.size < w1.heap.size ∧ w.heap.size + 1 < w1.heap.size ∧ w.heap.size + 1 + 1 < w1.heap.size ∧ w.heap.size + 1 + 1 + 1 < w1.heap.size := by have := Below.size k1; simp at this; omega
  go_wp2_with fail
  rw [rounds_succ]
  go_wp2_with fail
  refine (cell_1 m0 m1 m2 m3 m4 m5 n0 n1 n2 n3 n4 n5 _).mono ?_
  rintro e w2 ⟨rfl, k2⟩
  obtain ⟨c2, f2⟩ := k2.cells
  obtain ⟨z2, y2, x2, v2⟩ : w.heap.size < w2.heap.size ∧ w.heap.size + 1 < w2.heap.size ∧ w.heap.size + 1 + 1 < w2.heap.size ∧ w.heap.size + 1 + 1 + 1 < w2.heap.size := by have := Below.size k2; simp at this; omega
  go_wp2_with fail
  rw [rounds_succ]
  go_wp2_with fail
  refine (cell_2 m0 m1 m2 m3 m4 m5 n0 n1 n2 n3 n4 n5 _).mono ?_
  rintro e w3 ⟨rfl, k3⟩
  obtain ⟨c3, f3⟩ := k3.cells
  obtain ⟨z3, y3, x3, v3⟩ : w.heap.size < w3.heap.size ∧ w.heap.size + 1 < w3.heap.size ∧ w.heap.size + 1 + 1 < w3.heap.size ∧ w.heap.size + 1 + 1 + 1 < w3.heap.size := by have := Below.size k3; simp at this; omega
  go_wp2_with fail
  rw [rounds_succ]
  go_wp2_with fail
  refine (cell_3 m0 m1 m2 m3 m4 m5 n0 n1 n2 n3 n4 n5 _).mono ?_
  rintro e w4 ⟨rfl, k4⟩
  obtain ⟨c4, f4⟩ := k4.cells
  obtain ⟨z4, y4, x4, v4⟩ : w.heap.size < w4.heap.size ∧ w.heap.size + 1 < w4.heap.size ∧ w.heap.size + 1 + 1 < w4.heap.size ∧ w.heap.size + 1 + 1 + 1 < w4.heap.size := by have := Below.size k4; simp at this; omega
  go_wp2_with fail
  rw [rounds_succ]
  go_wp2_with fail
  refine (cell_4 m0 m1 m2 m3 m4 m5 n0 n1 n2 n3 n4 n5 _).mono ?_
  rintro e w5 ⟨rfl, k5⟩
  obtain ⟨c5, f5⟩ := k5.cells
  obtain ⟨z5, y5, x5, v5⟩ : w.heap.size < w5.heap.size ∧ w.heap.size + 1 < w5.heap.size ∧ w.heap.size + 1 + 1 < w5.heap.size ∧ w.heap.size + 1 + 1 + 1 < w5.heap.size := by have := Below.size k5; simp at this; omega
  go_wp2_with fail
  rw [rounds_succ]
  go_wp2_with fail
  refine (cell_5 m0 m1 m2 m3 m4 m5 n0 n1 n2 n3 n4 n5 _).mono ?_
  rintro e w6 ⟨rfl, k6⟩
  obtain ⟨c6, f6⟩ := k6.cells
  obtain ⟨z6, y6, x6, v6⟩ : w.heap.size < w6.heap.size ∧ w.heap.size + 1 < w6.heap.size ∧ w.heap.size + 1 + 1 < w6.heap.size ∧ w.heap.size + 1 + 1 + 1 < w6.heap.size := by have := Below.size k6; simp at this; omega
  go_wp2_with fail
  rw [rounds_succ]
  go_wp2_with fail
  refine bodyPost_ret (v := .tuple #[.agg #[.int .i64 (Gm.twoV m0 n0 m1 n2), .int .i64 (Gm.twoV m0 n1 m1 n3), .int .i64 (Gm.twoV m2 n0 m3 n2), .int .i64 (Gm.twoV m2 n1 m3 n3), .int .i64 (Gm.plsV m4 n0 m5 n2 n4), .int .i64 (Gm.plsV m4 n1 m5 n3 n5)], .int .i64 0]) ?_ rfl ⟨rfl, ?_⟩
  · simp [results, Try.results11, go_sem, c6, c5, c4, c3, c2, c1, x5, x4, x3, x2, x1]
  · exact ((((((((((((((((((((((Kept.refl w).alloc _ _).alloc _ _).alloc _ _).alloc _ _).trans k1).set (by omega) _).trans k2).set (by omega) _).trans k3).set (by omega) _).trans k4).set (by omega) _).trans k5).set (by omega) _).trans k6).set (by omega) _).set (by omega) _).set (by omega) _).set (by omega) _).set (by omega) _).set (by omega) _).set (by omega) _

theorem GMul_any (m0 m1 m2 m3 m4 m5 n0 n1 n2 n3 n4 n5 : Int) (w : World) :
    Calls Try.prog 11 #[.agg #[.int .i64 m0, .int .i64 m1, .int .i64 m2, .int .i64 m3, .int .i64 m4, .int .i64 m5], .agg #[.int .i64 n0, .int .i64 n1, .int .i64 n2, .int .i64 n3, .int .i64 n4, .int .i64 n5]] w fun e w' => e = .returned (.tuple #[.agg #[.int .i64 (Gm.zif (Gm.matE m0 m1 m2 m3 m4 m5 n0 n1 n2 n3 n4 n5) (Gm.twoV m0 n0 m1 n2)), .int .i64 (Gm.zif (Gm.matE m0 m1 m2 m3 m4 m5 n0 n1 n2 n3 n4 n5) (Gm.twoV m0 n1 m1 n3)), .int .i64 (Gm.zif (Gm.matE m0 m1 m2 m3 m4 m5 n0 n1 n2 n3 n4 n5) (Gm.twoV m2 n0 m3 n2)), .int .i64 (Gm.zif (Gm.matE m0 m1 m2 m3 m4 m5 n0 n1 n2 n3 n4 n5) (Gm.twoV m2 n1 m3 n3)), .int .i64 (Gm.zif (Gm.matE m0 m1 m2 m3 m4 m5 n0 n1 n2 n3 n4 n5) (Gm.plsV m4 n0 m5 n2 n4)), .int .i64 (Gm.zif (Gm.matE m0 m1 m2 m3 m4 m5 n0 n1 n2 n3 n4 n5) (Gm.plsV m4 n1 m5 n3 n5))], .int .i64 (Gm.matE m0 m1 m2 m3 m4 m5 n0 n1 n2 n3 n4 n5)]) ∧ Kept w w' := by
  by_cases h0 : Gm.twoE m0 n0 m1 n2 = 0
  · by_cases h1 : Gm.twoE m0 n1 m1 n3 = 0
    · by_cases h2 : Gm.twoE m2 n0 m3 n2 = 0
      · by_cases h3 : Gm.twoE m2 n1 m3 n3 = 0
        · by_cases h4 : Gm.plsE m4 n0 m5 n2 n4 = 0
          · by_cases h5 : Gm.plsE m4 n1 m5 n3 n5 = 0
            · have e : Gm.matE m0 m1 m2 m3 m4 m5 n0 n1 n2 n3 n4 n5 = 0 := by unfold Gm.matE; rw [h0, h1, h2, h3, h4, h5]; rfl
              rw [e]
              simp only [Gm.zif_ok rfl]
              exact Mul_case6 m0 m1 m2 m3 m4 m5 n0 n1 n2 n3 n4 n5 w h0 h1 h2 h3 h4 h5
            · have e : Gm.matE m0 m1 m2 m3 m4 m5 n0 n1 n2 n3 n4 n5 = Gm.plsE m4 n1 m5 n3 n5 := by unfold Gm.matE; rw [h0, Gm.fst_zero]; rw [h1, Gm.fst_zero]; rw [h2, Gm.fst_zero]; rw [h3, Gm.fst_zero]; rw [h4, Gm.fst_zero]
              have z : Gm.matE m0 m1 m2 m3 m4 m5 n0 n1 n2 n3 n4 n5 ≠ 0 := by rw [e]; exact h5
              simp only [Gm.zif_no z]
              rw [e]
              exact Mul_case5 m0 m1 m2 m3 m4 m5 n0 n1 n2 n3 n4 n5 w h0 h1 h2 h3 h4 h5
          · have e : Gm.matE m0 m1 m2 m3 m4 m5 n0 n1 n2 n3 n4 n5 = Gm.plsE m4 n0 m5 n2 n4 := by unfold Gm.matE; rw [h0, Gm.fst_zero]; rw [h1, Gm.fst_zero]; rw [h2, Gm.fst_zero]; rw [h3, Gm.fst_zero]; rw [Gm.fst_ne h4]
            have z : Gm.matE m0 m1 m2 m3 m4 m5 n0 n1 n2 n3 n4 n5 ≠ 0 := by rw [e]; exact h4
            simp only [Gm.zif_no z]
            rw [e]
            exact Mul_case4 m0 m1 m2 m3 m4 m5 n0 n1 n2 n3 n4 n5 w h0 h1 h2 h3 h4
        · have e : Gm.matE m0 m1 m2 m3 m4 m5 n0 n1 n2 n3 n4 n5 = Gm.twoE m2 n1 m3 n3 := by unfold Gm.matE; rw [h0, Gm.fst_zero]; rw [h1, Gm.fst_zero]; rw [h2, Gm.fst_zero]; rw [Gm.fst_ne h3]
          have z : Gm.matE m0 m1 m2 m3 m4 m5 n0 n1 n2 n3 n4 n5 ≠ 0 := by rw [e]; exact h3
          simp only [Gm.zif_no z]
          rw [e]
          exact Mul_case3 m0 m1 m2 m3 m4 m5 n0 n1 n2 n3 n4 n5 w h0 h1 h2 h3
      · have e : Gm.matE m0 m1 m2 m3 m4 m5 n0 n1 n2 n3 n4 n5 = Gm.twoE m2 n0 m3 n2 := by unfold Gm.matE; rw [h0, Gm.fst_zero]; rw [h1, Gm.fst_zero]; rw [Gm.fst_ne h2]
        have z : Gm.matE m0 m1 m2 m3 m4 m5 n0 n1 n2 n3 n4 n5 ≠ 0 := by rw [e]; exact h2
        simp only [Gm.zif_no z]
        rw [e]
        exact Mul_case2 m0 m1 m2 m3 m4 m5 n0 n1 n2 n3 n4 n5 w h0 h1 h2
    · have e : Gm.matE m0 m1 m2 m3 m4 m5 n0 n1 n2 n3 n4 n5 = Gm.twoE m0 n1 m1 n3 := by unfold Gm.matE; rw [h0, Gm.fst_zero]; rw [Gm.fst_ne h1]
      have z : Gm.matE m0 m1 m2 m3 m4 m5 n0 n1 n2 n3 n4 n5 ≠ 0 := by rw [e]; exact h1
      simp only [Gm.zif_no z]
      rw [e]
      exact Mul_case1 m0 m1 m2 m3 m4 m5 n0 n1 n2 n3 n4 n5 w h0 h1
  · have e : Gm.matE m0 m1 m2 m3 m4 m5 n0 n1 n2 n3 n4 n5 = Gm.twoE m0 n0 m1 n2 := by unfold Gm.matE; rw [Gm.fst_ne h0]
    have z : Gm.matE m0 m1 m2 m3 m4 m5 n0 n1 n2 n3 n4 n5 ≠ 0 := by rw [e]; exact h0
    simp only [Gm.zif_no z]
    rw [e]
    exact Mul_case0 m0 m1 m2 m3 m4 m5 n0 n1 n2 n3 n4 n5 w h0

end Go.Proofs.Ytbckjejflbfjlaa
