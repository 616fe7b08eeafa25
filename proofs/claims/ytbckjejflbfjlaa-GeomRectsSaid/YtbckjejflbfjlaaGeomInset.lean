/-
  What package geom's Inset answers.
-/
import Derived.Test.YtbckjejflbfjlaaGeomSize
namespace Go.Proofs.Ytbckjejflbfjlaa
open Go.RowKit

set_option linter.unusedSimpArgs false in
set_option maxHeartbeats 2000000 in
theorem Inset_yes (a b c d h : Int) (w : World) (h0 : Fx.addE (min a c) h = 0) (h1 : Fx.addE (min b d) h = 0) (h2 : Fx.subE (max a c) h = 0) (h3 : Fx.subE (max b d) h = 0) (hh : Gm.insB (Fx.addV (min a c) h) (Fx.addV (min b d) h) (Fx.subV (max a c) h) (Fx.subV (max b d) h) = true) :
    Calls Try.prog 25 #[.agg #[.int .i64 a, .int .i64 b, .int .i64 c, .int .i64 d], .int .i64 h] w fun e w' => e = .returned (.tuple #[.agg #[.int .i64 (Fx.addV (min a c) h), .int .i64 (Fx.addV (min b d) h), .int .i64 (Fx.subV (max a c) h), .int .i64 (Fx.subV (max b d) h)], .bool true]) ∧ Kept w w' := by
  have H := Lib.hid (Gm.ins_iff.1 hh)
  have t0 := ne_no h0
  have t1 := ne_no h1
  have t2 := ne_no h2
  have t3 := ne_no h3
  clear hh h0 h1 h2 h3
  go_enter Try.func25, Try.ntmps25
  go_wp2_with fail
  refine (Norm_any a b c d _).mono ?_
  rintro e w1 ⟨rfl, k1⟩
  obtain ⟨c1, f1⟩ := k1.cells
  obtain ⟨z1, y1⟩ : w.heap.size < w1.heap.size ∧ w.heap.size + 1 < w1.heap.size := by have := Below.size k1; simp at this; omega
  have g0 : w1.cell? ⟨w.heap.size, 0, none⟩ = some (.int .i64 a) := by
    rw [c1 _ _ (by simp; omega)]; simp [go_sem]
  have i0 : w1.frozen? ⟨w.heap.size, 0, none⟩ = false := by
    rw [f1 _ _ (by simp; omega)]; simp [go_sem]
  have g1 : w1.cell? ⟨w.heap.size, 1, none⟩ = some (.int .i64 b) := by
    rw [c1 _ _ (by simp; omega)]; simp [go_sem]
  have i1 : w1.frozen? ⟨w.heap.size, 1, none⟩ = false := by
    rw [f1 _ _ (by simp; omega)]; simp [go_sem]
  have g2 : w1.cell? ⟨w.heap.size, 2, none⟩ = some (.int .i64 c) := by
    rw [c1 _ _ (by simp; omega)]; simp [go_sem]
  have i2 : w1.frozen? ⟨w.heap.size, 2, none⟩ = false := by
    rw [f1 _ _ (by simp; omega)]; simp [go_sem]
  have g3 : w1.cell? ⟨w.heap.size, 3, none⟩ = some (.int .i64 d) := by
    rw [c1 _ _ (by simp; omega)]; simp [go_sem]
  have i3 : w1.frozen? ⟨w.heap.size, 3, none⟩ = false := by
    rw [f1 _ _ (by simp; omega)]; simp [go_sem]
  go_wp2_with fail
  refine (Add_any _ _ _).mono ?_
  rintro e w2 ⟨rfl, k2⟩
  obtain ⟨c2, f2⟩ := k2.cells
  obtain ⟨z2, y2⟩ : w.heap.size < w2.heap.size ∧ w.heap.size + 1 < w2.heap.size := by have := Below.size k2; (try simp at this); omega
  go_wp2_with fail
  refine (Add_any _ _ _).mono ?_
  rintro e w3 ⟨rfl, k3⟩
  obtain ⟨c3, f3⟩ := k3.cells
  obtain ⟨z3, y3⟩ : w.heap.size < w3.heap.size ∧ w.heap.size + 1 < w3.heap.size := by have := Below.size k3; (try simp at this); omega
  go_wp2_with fail
  refine (Sub_any _ _ _).mono ?_
  rintro e w4 ⟨rfl, k4⟩
  obtain ⟨c4, f4⟩ := k4.cells
  obtain ⟨z4, y4⟩ : w.heap.size < w4.heap.size ∧ w.heap.size + 1 < w4.heap.size := by have := Below.size k4; (try simp at this); omega
  go_wp2_with fail
  refine (Sub_any _ _ _).mono ?_
  rintro e w5 ⟨rfl, k5⟩
  obtain ⟨c5, f5⟩ := k5.cells
  obtain ⟨z5, y5⟩ : w.heap.size < w5.heap.size ∧ w.heap.size + 1 < w5.heap.size := by have := Below.size k5; (try simp at this); omega
  go_wp2_with fail
  refine (inside_yes _ _ _ _ _ H.out.1 H.out.2).mono ?_
  rintro e w6 ⟨rfl, k6⟩
  obtain ⟨c6, f6⟩ := k6.cells
  go_wp2_with fail
  refine bodyPost_ret (v := .tuple #[.agg #[.int .i64 (Fx.addV (min a c) h), .int .i64 (Fx.addV (min b d) h), .int .i64 (Fx.subV (max a c) h), .int .i64 (Fx.subV (max b d) h)], .bool true]) ?_ rfl ⟨rfl, ?_⟩
  · simp [results, Try.results25, go_sem, c1, c2, c3, c4, c5, c6, y1, y2, y3, y4, y5]
  · exact ((((((((((((((((Kept.refl w).alloc _ _).alloc _ _).trans k1).set (by omega) _).set (by omega) _).set (by omega) _).set (by omega) _).trans k2).trans k3).trans k4).trans k5).trans k6).set (by omega) _).set (by omega) _).set (by omega) _).set (by omega) _

set_option linter.unusedSimpArgs false in
set_option maxHeartbeats 2000000 in
theorem Inset_out (a b c d h : Int) (w : World) (h0 : Fx.addE (min a c) h = 0) (h1 : Fx.addE (min b d) h = 0) (h2 : Fx.subE (max a c) h = 0) (h3 : Fx.subE (max b d) h = 0) (hh : Gm.insB (Fx.addV (min a c) h) (Fx.addV (min b d) h) (Fx.subV (max a c) h) (Fx.subV (max b d) h) = false) :
    Calls Try.prog 25 #[.agg #[.int .i64 a, .int .i64 b, .int .i64 c, .int .i64 d], .int .i64 h] w fun e w' => e = .returned (.tuple #[.agg #[.int .i64 0, .int .i64 0, .int .i64 0, .int .i64 0], .bool false]) ∧ Kept w w' := by
  have H := Lib.hid (Gm.ins_not hh)
  have t0 := ne_no h0
  have t1 := ne_no h1
  have t2 := ne_no h2
  have t3 := ne_no h3
  clear hh h0 h1 h2 h3
  go_enter Try.func25, Try.ntmps25
  go_wp2_with fail
  refine (Norm_any a b c d _).mono ?_
  rintro e w1 ⟨rfl, k1⟩
  obtain ⟨c1, f1⟩ := k1.cells
  obtain ⟨z1, y1⟩ : w.heap.size < w1.heap.size ∧ w.heap.size + 1 < w1.heap.size := by have := Below.size k1; simp at this; omega
  have g0 : w1.cell? ⟨w.heap.size, 0, none⟩ = some (.int .i64 a) := by
    rw [c1 _ _ (by simp; omega)]; simp [go_sem]
  have i0 : w1.frozen? ⟨w.heap.size, 0, none⟩ = false := by
    rw [f1 _ _ (by simp; omega)]; simp [go_sem]
  have g1 : w1.cell? ⟨w.heap.size, 1, none⟩ = some (.int .i64 b) := by
    rw [c1 _ _ (by simp; omega)]; simp [go_sem]
  have i1 : w1.frozen? ⟨w.heap.size, 1, none⟩ = false := by
    rw [f1 _ _ (by simp; omega)]; simp [go_sem]
  have g2 : w1.cell? ⟨w.heap.size, 2, none⟩ = some (.int .i64 c) := by
    rw [c1 _ _ (by simp; omega)]; simp [go_sem]
  have i2 : w1.frozen? ⟨w.heap.size, 2, none⟩ = false := by
    rw [f1 _ _ (by simp; omega)]; simp [go_sem]
  have g3 : w1.cell? ⟨w.heap.size, 3, none⟩ = some (.int .i64 d) := by
    rw [c1 _ _ (by simp; omega)]; simp [go_sem]
  have i3 : w1.frozen? ⟨w.heap.size, 3, none⟩ = false := by
    rw [f1 _ _ (by simp; omega)]; simp [go_sem]
  go_wp2_with fail
  refine (Add_any _ _ _).mono ?_
  rintro e w2 ⟨rfl, k2⟩
  obtain ⟨c2, f2⟩ := k2.cells
  obtain ⟨z2, y2⟩ : w.heap.size < w2.heap.size ∧ w.heap.size + 1 < w2.heap.size := by have := Below.size k2; (try simp at this); omega
  go_wp2_with fail
  refine (Add_any _ _ _).mono ?_
  rintro e w3 ⟨rfl, k3⟩
  obtain ⟨c3, f3⟩ := k3.cells
  obtain ⟨z3, y3⟩ : w.heap.size < w3.heap.size ∧ w.heap.size + 1 < w3.heap.size := by have := Below.size k3; (try simp at this); omega
  go_wp2_with fail
  refine (Sub_any _ _ _).mono ?_
  rintro e w4 ⟨rfl, k4⟩
  obtain ⟨c4, f4⟩ := k4.cells
  obtain ⟨z4, y4⟩ : w.heap.size < w4.heap.size ∧ w.heap.size + 1 < w4.heap.size := by have := Below.size k4; (try simp at this); omega
  go_wp2_with fail
  refine (Sub_any _ _ _).mono ?_
  rintro e w5 ⟨rfl, k5⟩
  obtain ⟨c5, f5⟩ := k5.cells
  obtain ⟨z5, y5⟩ : w.heap.size < w5.heap.size ∧ w.heap.size + 1 < w5.heap.size := by have := Below.size k5; (try simp at this); omega
  go_wp2_with fail
  refine (inside_no _ _ _ _ _ H.out).mono ?_
  rintro e w6 ⟨rfl, k6⟩
  obtain ⟨c6, f6⟩ := k6.cells
  go_wp2_with fail
  refine bodyPost_ret (v := .tuple #[.agg #[.int .i64 0, .int .i64 0, .int .i64 0, .int .i64 0], .bool false]) ?_ rfl ⟨rfl, ?_⟩
  · simp [results, Try.results25, go_sem, c1, c2, c3, c4, c5, c6, y1, y2, y3, y4, y5]
  · exact ((((((((((((((((Kept.refl w).alloc _ _).alloc _ _).trans k1).set (by omega) _).set (by omega) _).set (by omega) _).set (by omega) _).trans k2).trans k3).trans k4).trans k5).trans k6).set (by omega) _).set (by omega) _).set (by omega) _).set (by omega) _

set_option linter.unusedSimpArgs false in
set_option maxHeartbeats 2000000 in
theorem Inset_e0 (a b c d h : Int) (w : World)  (h0 : ¬ Fx.addE (min a c) h = 0) :
    Calls Try.prog 25 #[.agg #[.int .i64 a, .int .i64 b, .int .i64 c, .int .i64 d], .int .i64 h] w fun e w' => e = .returned (.tuple #[.agg #[.int .i64 0, .int .i64 0, .int .i64 0, .int .i64 0], .bool false]) ∧ Kept w w' := by
  have t0 := ne_yes h0
  clear h0
  go_enter Try.func25, Try.ntmps25
  go_wp2_with fail
  refine (Norm_any a b c d _).mono ?_
  rintro e w1 ⟨rfl, k1⟩
  obtain ⟨c1, f1⟩ := k1.cells
  obtain ⟨z1, y1⟩ : w.heap.size < w1.heap.size ∧ w.heap.size + 1 < w1.heap.size := by have := Below.size k1; simp at this; omega
  have g0 : w1.cell? ⟨w.heap.size, 0, none⟩ = some (.int .i64 a) := by
    rw [c1 _ _ (by simp; omega)]; simp [go_sem]
  have i0 : w1.frozen? ⟨w.heap.size, 0, none⟩ = false := by
    rw [f1 _ _ (by simp; omega)]; simp [go_sem]
  have g1 : w1.cell? ⟨w.heap.size, 1, none⟩ = some (.int .i64 b) := by
    rw [c1 _ _ (by simp; omega)]; simp [go_sem]
  have i1 : w1.frozen? ⟨w.heap.size, 1, none⟩ = false := by
    rw [f1 _ _ (by simp; omega)]; simp [go_sem]
  have g2 : w1.cell? ⟨w.heap.size, 2, none⟩ = some (.int .i64 c) := by
    rw [c1 _ _ (by simp; omega)]; simp [go_sem]
  have i2 : w1.frozen? ⟨w.heap.size, 2, none⟩ = false := by
    rw [f1 _ _ (by simp; omega)]; simp [go_sem]
  have g3 : w1.cell? ⟨w.heap.size, 3, none⟩ = some (.int .i64 d) := by
    rw [c1 _ _ (by simp; omega)]; simp [go_sem]
  have i3 : w1.frozen? ⟨w.heap.size, 3, none⟩ = false := by
    rw [f1 _ _ (by simp; omega)]; simp [go_sem]
  go_wp2_with fail
  refine (Add_any _ _ _).mono ?_
  rintro e w2 ⟨rfl, k2⟩
  obtain ⟨c2, f2⟩ := k2.cells
  obtain ⟨z2, y2⟩ : w.heap.size < w2.heap.size ∧ w.heap.size + 1 < w2.heap.size := by have := Below.size k2; (try simp at this); omega
  go_wp2_with fail
  refine (Add_any _ _ _).mono ?_
  rintro e w3 ⟨rfl, k3⟩
  obtain ⟨c3, f3⟩ := k3.cells
  obtain ⟨z3, y3⟩ : w.heap.size < w3.heap.size ∧ w.heap.size + 1 < w3.heap.size := by have := Below.size k3; (try simp at this); omega
  go_wp2_with fail
  refine (Sub_any _ _ _).mono ?_
  rintro e w4 ⟨rfl, k4⟩
  obtain ⟨c4, f4⟩ := k4.cells
  obtain ⟨z4, y4⟩ : w.heap.size < w4.heap.size ∧ w.heap.size + 1 < w4.heap.size := by have := Below.size k4; (try simp at this); omega
  go_wp2_with fail
  refine (Sub_any _ _ _).mono ?_
  rintro e w5 ⟨rfl, k5⟩
  obtain ⟨c5, f5⟩ := k5.cells
  obtain ⟨z5, y5⟩ : w.heap.size < w5.heap.size ∧ w.heap.size + 1 < w5.heap.size := by have := Below.size k5; (try simp at this); omega
  go_wp2_with fail
  refine bodyPost_ret (v := .tuple #[.agg #[.int .i64 0, .int .i64 0, .int .i64 0, .int .i64 0], .bool false]) ?_ rfl ⟨rfl, ?_⟩
  · simp [results, Try.results25, go_sem, c1, c2, c3, c4, c5, y1, y2, y3, y4, y5]
  · exact (((((((((((((((Kept.refl w).alloc _ _).alloc _ _).trans k1).set (by omega) _).set (by omega) _).set (by omega) _).set (by omega) _).trans k2).trans k3).trans k4).trans k5).set (by omega) _).set (by omega) _).set (by omega) _).set (by omega) _

set_option linter.unusedSimpArgs false in
set_option maxHeartbeats 2000000 in
theorem Inset_e1 (a b c d h : Int) (w : World) (h0 : Fx.addE (min a c) h = 0) (h1 : ¬ Fx.addE (min b d) h = 0) :
    Calls Try.prog 25 #[.agg #[.int .i64 a, .int .i64 b, .int .i64 c, .int .i64 d], .int .i64 h] w fun e w' => e = .returned (.tuple #[.agg #[.int .i64 0, .int .i64 0, .int .i64 0, .int .i64 0], .bool false]) ∧ Kept w w' := by
  have t0 := ne_no h0
  have t1 := ne_yes h1
  clear h0 h1
  go_enter Try.func25, Try.ntmps25
  go_wp2_with fail
  refine (Norm_any a b c d _).mono ?_
  rintro e w1 ⟨rfl, k1⟩
  obtain ⟨c1, f1⟩ := k1.cells
  obtain ⟨z1, y1⟩ : w.heap.size < w1.heap.size ∧ w.heap.size + 1 < w1.heap.size := by have := Below.size k1; simp at this; omega
  have g0 : w1.cell? ⟨w.heap.size, 0, none⟩ = some (.int .i64 a) := by
    rw [c1 _ _ (by simp; omega)]; simp [go_sem]
  have i0 : w1.frozen? ⟨w.heap.size, 0, none⟩ = false := by
    rw [f1 _ _ (by simp; omega)]; simp [go_sem]
  have g1 : w1.cell? ⟨w.heap.size, 1, none⟩ = some (.int .i64 b) := by
    rw [c1 _ _ (by simp; omega)]; simp [go_sem]
  have i1 : w1.frozen? ⟨w.heap.size, 1, none⟩ = false := by
    rw [f1 _ _ (by simp; omega)]; simp [go_sem]
  have g2 : w1.cell? ⟨w.heap.size, 2, none⟩ = some (.int .i64 c) := by
    rw [c1 _ _ (by simp; omega)]; simp [go_sem]
  have i2 : w1.frozen? ⟨w.heap.size, 2, none⟩ = false := by
    rw [f1 _ _ (by simp; omega)]; simp [go_sem]
  have g3 : w1.cell? ⟨w.heap.size, 3, none⟩ = some (.int .i64 d) := by
    rw [c1 _ _ (by simp; omega)]; simp [go_sem]
  have i3 : w1.frozen? ⟨w.heap.size, 3, none⟩ = false := by
    rw [f1 _ _ (by simp; omega)]; simp [go_sem]
  go_wp2_with fail
  refine (Add_any _ _ _).mono ?_
  rintro e w2 ⟨rfl, k2⟩
  obtain ⟨c2, f2⟩ := k2.cells
  obtain ⟨z2, y2⟩ : w.heap.size < w2.heap.size ∧ w.heap.size + 1 < w2.heap.size := by have := Below.size k2; (try simp at this); omega
  go_wp2_with fail
  refine (Add_any _ _ _).mono ?_
  rintro e w3 ⟨rfl, k3⟩
  obtain ⟨c3, f3⟩ := k3.cells
  obtain ⟨z3, y3⟩ : w.heap.size < w3.heap.size ∧ w.heap.size + 1 < w3.heap.size := by have := Below.size k3; (try simp at this); omega
  go_wp2_with fail
  refine (Sub_any _ _ _).mono ?_
  rintro e w4 ⟨rfl, k4⟩
  obtain ⟨c4, f4⟩ := k4.cells
  obtain ⟨z4, y4⟩ : w.heap.size < w4.heap.size ∧ w.heap.size + 1 < w4.heap.size := by have := Below.size k4; (try simp at this); omega
  go_wp2_with fail
  refine (Sub_any _ _ _).mono ?_
  rintro e w5 ⟨rfl, k5⟩
  obtain ⟨c5, f5⟩ := k5.cells
  obtain ⟨z5, y5⟩ : w.heap.size < w5.heap.size ∧ w.heap.size + 1 < w5.heap.size := by have := Below.size k5; (try simp at this); omega
  go_wp2_with fail
  refine bodyPost_ret (v := .tuple #[.agg #[.int .i64 0, .int .i64 0, .int .i64 0, .int .i64 0], .bool false]) ?_ rfl ⟨rfl, ?_⟩
  · simp [results, Try.results25, go_sem, c1, c2, c3, c4, c5, y1, y2, y3, y4, y5]
  · exact (((((((((((((((Kept.refl w).alloc _ _).alloc _ _).trans k1).set (by omega) _).set (by omega) _).set (by omega) _).set (by omega) _).trans k2).trans k3).trans k4).trans k5).set (by omega) _).set (by omega) _).set (by omega) _).set (by omega) _

set_option linter.unusedSimpArgs false in
set_option maxHeartbeats 2000000 in
theorem Inset_e2 (a b c d h : Int) (w : World) (h0 : Fx.addE (min a c) h = 0) (h1 : Fx.addE (min b d) h = 0) (h2 : ¬ Fx.subE (max a c) h = 0) :
    Calls Try.prog 25 #[.agg #[.int .i64 a, .int .i64 b, .int .i64 c, .int .i64 d], .int .i64 h] w fun e w' => e = .returned (.tuple #[.agg #[.int .i64 0, .int .i64 0, .int .i64 0, .int .i64 0], .bool false]) ∧ Kept w w' := by
  have t0 := ne_no h0
  have t1 := ne_no h1
  have t2 := ne_yes h2
  clear h0 h1 h2
  go_enter Try.func25, Try.ntmps25
  go_wp2_with fail
  refine (Norm_any a b c d _).mono ?_
  rintro e w1 ⟨rfl, k1⟩
  obtain ⟨c1, f1⟩ := k1.cells
  obtain ⟨z1, y1⟩ : w.heap.size < w1.heap.size ∧ w.heap.size + 1 < w1.heap.size := by have := Below.size k1; simp at this; omega
  have g0 : w1.cell? ⟨w.heap.size, 0, none⟩ = some (.int .i64 a) := by
    rw [c1 _ _ (by simp; omega)]; simp [go_sem]
  have i0 : w1.frozen? ⟨w.heap.size, 0, none⟩ = false := by
    rw [f1 _ _ (by simp; omega)]; simp [go_sem]
  have g1 : w1.cell? ⟨w.heap.size, 1, none⟩ = some (.int .i64 b) := by
    rw [c1 _ _ (by simp; omega)]; simp [go_sem]
  have i1 : w1.frozen? ⟨w.heap.size, 1, none⟩ = false := by
    rw [f1 _ _ (by simp; omega)]; simp [go_sem]
  have g2 : w1.cell? ⟨w.heap.size, 2, none⟩ = some (.int .i64 c) := by
    rw [c1 _ _ (by simp; omega)]; simp [go_sem]
  have i2 : w1.frozen? ⟨w.heap.size, 2, none⟩ = false := by
    rw [f1 _ _ (by simp; omega)]; simp [go_sem]
  have g3 : w1.cell? ⟨w.heap.size, 3, none⟩ = some (.int .i64 d) := by
    rw [c1 _ _ (by simp; omega)]; simp [go_sem]
  have i3 : w1.frozen? ⟨w.heap.size, 3, none⟩ = false := by
    rw [f1 _ _ (by simp; omega)]; simp [go_sem]
  go_wp2_with fail
  refine (Add_any _ _ _).mono ?_
  rintro e w2 ⟨rfl, k2⟩
  obtain ⟨c2, f2⟩ := k2.cells
  obtain ⟨z2, y2⟩ : w.heap.size < w2.heap.size ∧ w.heap.size + 1 < w2.heap.size := by have := Below.size k2; (try simp at this); omega
  go_wp2_with fail
  refine (Add_any _ _ _).mono ?_
  rintro e w3 ⟨rfl, k3⟩
  obtain ⟨c3, f3⟩ := k3.cells
  obtain ⟨z3, y3⟩ : w.heap.size < w3.heap.size ∧ w.heap.size + 1 < w3.heap.size := by have := Below.size k3; (try simp at this); omega
  go_wp2_with fail
  refine (Sub_any _ _ _).mono ?_
  rintro e w4 ⟨rfl, k4⟩
  obtain ⟨c4, f4⟩ := k4.cells
  obtain ⟨z4, y4⟩ : w.heap.size < w4.heap.size ∧ w.heap.size + 1 < w4.heap.size := by have := Below.size k4; (try simp at this); omega
  go_wp2_with fail
  refine (Sub_any _ _ _).mono ?_
  rintro e w5 ⟨rfl, k5⟩
  obtain ⟨c5, f5⟩ := k5.cells
  obtain ⟨z5, y5⟩ : w.heap.size < w5.heap.size ∧ w.heap.size + 1 < w5.heap.size := by have := Below.size k5; (try simp at this); omega
  go_wp2_with fail
  refine bodyPost_ret (v := .tuple #[.agg #[.int .i64 0, .int .i64 0, .int .i64 0, .int .i64 0], .bool false]) ?_ rfl ⟨rfl, ?_⟩
  · simp [results, Try.results25, go_sem, c1, c2, c3, c4, c5, y1, y2, y3, y4, y5]
  · exact (((((((((((((((Kept.refl w).alloc _ _).alloc _ _).trans k1).set (by omega) _).set (by omega) _).set (by omega) _).set (by omega) _).trans k2).trans k3).trans k4).trans k5).set (by omega) _).set (by omega) _).set (by omega) _).set (by omega) _

set_option linter.unusedSimpArgs false in
set_option maxHeartbeats 2000000 in
theorem Inset_e3 (a b c d h : Int) (w : World) (h0 : Fx.addE (min a c) h = 0) (h1 : Fx.addE (min b d) h = 0) (h2 : Fx.subE (max a c) h = 0) (h3 : ¬ Fx.subE (max b d) h = 0) :
    Calls Try.prog 25 #[.agg #[.int .i64 a, .int .i64 b, .int .i64 c, .int .i64 d], .int .i64 h] w fun e w' => e = .returned (.tuple #[.agg #[.int .i64 0, .int .i64 0, .int .i64 0, .int .i64 0], .bool false]) ∧ Kept w w' := by
  have t0 := ne_no h0
  have t1 := ne_no h1
  have t2 := ne_no h2
  have t3 := ne_yes h3
  clear h0 h1 h2 h3
  go_enter Try.func25, Try.ntmps25
  go_wp2_with fail
  refine (Norm_any a b c d _).mono ?_
  rintro e w1 ⟨rfl, k1⟩
  obtain ⟨c1, f1⟩ := k1.cells
  obtain ⟨z1, y1⟩ : w.heap.size < w1.heap.size ∧ w.heap.size + 1 < w1.heap.size := by have := Below.size k1; simp at this; omega
  have g0 : w1.cell? ⟨w.heap.size, 0, none⟩ = some (.int .i64 a) := by
    rw [c1 _ _ (by simp; omega)]; simp [go_sem]
  have i0 : w1.frozen? ⟨w.heap.size, 0, none⟩ = false := by
    rw [f1 _ _ (by simp; omega)]; simp [go_sem]
  have g1 : w1.cell? ⟨w.heap.size, 1, none⟩ = some (.int .i64 b) := by
    rw [c1 _ _ (by simp; omega)]; simp [go_sem]
  have i1 : w1.frozen? ⟨w.heap.size, 1, none⟩ = false := by
    rw [f1 _ _ (by simp; omega)]; simp [go_sem]
  have g2 : w1.cell? ⟨w.heap.size, 2, none⟩ = some (.int .i64 c) := by
    rw [c1 _ _ (by simp; omega)]; simp [go_sem]
  have i2 : w1.frozen? ⟨w.heap.size, 2, none⟩ = false := by
    rw [f1 _ _ (by simp; omega)]; simp [go_sem]
  have g3 : w1.cell? ⟨w.heap.size, 3, none⟩ = some (.int .i64 d) := by
    rw [c1 _ _ (by simp; omega)]; simp [go_sem]
  have i3 : w1.frozen? ⟨w.heap.size, 3, none⟩ = false := by
    rw [f1 _ _ (by simp; omega)]; simp [go_sem]
  go_wp2_with fail
  refine (Add_any _ _ _).mono ?_
  rintro e w2 ⟨rfl, k2⟩
  obtain ⟨c2, f2⟩ := k2.cells
  obtain ⟨z2, y2⟩ : w.heap.size < w2.heap.size ∧ w.heap.size + 1 < w2.heap.size := by have := Below.size k2; (try simp at this); omega
  go_wp2_with fail
  refine (Add_any _ _ _).mono ?_
  rintro e w3 ⟨rfl, k3⟩
  obtain ⟨c3, f3⟩ := k3.cells
  obtain ⟨z3, y3⟩ : w.heap.size < w3.heap.size ∧ w.heap.size + 1 < w3.heap.size := by have := Below.size k3; (try simp at this); omega
  go_wp2_with fail
  refine (Sub_any _ _ _).mono ?_
  rintro e w4 ⟨rfl, k4⟩
  obtain ⟨c4, f4⟩ := k4.cells
  obtain ⟨z4, y4⟩ : w.heap.size < w4.heap.size ∧ w.heap.size + 1 < w4.heap.size := by have := Below.size k4; (try simp at this); omega
  go_wp2_with fail
  refine (Sub_any _ _ _).mono ?_
  rintro e w5 ⟨rfl, k5⟩
  obtain ⟨c5, f5⟩ := k5.cells
  obtain ⟨z5, y5⟩ : w.heap.size < w5.heap.size ∧ w.heap.size + 1 < w5.heap.size := by have := Below.size k5; (try simp at this); omega
  go_wp2_with fail
  refine bodyPost_ret (v := .tuple #[.agg #[.int .i64 0, .int .i64 0, .int .i64 0, .int .i64 0], .bool false]) ?_ rfl ⟨rfl, ?_⟩
  · simp [results, Try.results25, go_sem, c1, c2, c3, c4, c5, y1, y2, y3, y4, y5]
  · exact (((((((((((((((Kept.refl w).alloc _ _).alloc _ _).trans k1).set (by omega) _).set (by omega) _).set (by omega) _).set (by omega) _).trans k2).trans k3).trans k4).trans k5).set (by omega) _).set (by omega) _).set (by omega) _).set (by omega) _

end Go.Proofs.Ytbckjejflbfjlaa
