/-
  What the document's own Mul (the reference) answers.
-/
import Derived.Test.YtbckjejflbfjlaaGeomRefMatMath
import Derived.Test.YtbckjejflbfjlaaBlk
import Derived.Deep.RegionHeld3
namespace Go.Proofs.Ytbckjejflbfjlaa
open Go.RowKit

set_option maxHeartbeats 8000000 in
set_option maxRecDepth 100000 in
theorem RMul2_ok (m0 m1 m2 m3 m4 m5 n0 n1 n2 n3 n4 n5 : Int) (w : World) (h : Gm.matE m0 m1 m2 m3 m4 m5 n0 n1 n2 n3 n4 n5 = 0) :
    Calls Try.prog 12 #[.agg #[.int .i64 m0, .int .i64 m1, .int .i64 m2, .int .i64 m3, .int .i64 m4, .int .i64 m5], .agg #[.int .i64 n0, .int .i64 n1, .int .i64 n2, .int .i64 n3, .int .i64 n4, .int .i64 n5]] w fun e w' => e = .returned (.tuple #[.agg #[.int .i64 (Gm.twoW m0 n0 m1 n2), .int .i64 (Gm.twoW m0 n1 m1 n3), .int .i64 (Gm.twoW m2 n0 m3 n2), .int .i64 (Gm.twoW m2 n1 m3 n3), .int .i64 (Fx.addV (Gm.twoW m4 n0 m5 n2) n4), .int .i64 (Fx.addV (Gm.twoW m4 n1 m5 n3) n5)], .int .i64 0]) ∧ Kept w w' := by
  have t0 : ((Gm.fst (Gm.fst (Gm.fst (Gm.fst (Gm.fst (Gm.fst (Gm.fst (Gm.fst 0 (Gm.twoE m0 n0 m1 n2)) (Gm.twoE m0 n1 m1 n3)) (Gm.twoE m2 n0 m3 n2)) (Gm.twoE m2 n1 m3 n3)) (Gm.twoE m4 n0 m5 n2)) (Fx.addE (Gm.twoW m4 n0 m5 n2) n4)) (Gm.twoE m4 n1 m5 n3)) (Fx.addE (Gm.twoW m4 n1 m5 n3) n5)) != 0) = false := by rw [Gm.mat_raw]; exact ne_no h
  clear h
  go_enter Try.func12, Try.ntmps12
  go_wp2_with fail
  refine (two_any _ 0 m0 n0 m1 n2 _ (by simp [go_sem]) (by simp [go_sem])).mono ?_
  rintro e w1 ⟨rfl, rfl⟩
  go_wp2_with fail
  refine (two_any _ (Gm.fst 0 (Gm.twoE m0 n0 m1 n2)) m0 n1 m1 n3 _ (by simp [go_sem]) (by simp [go_sem])).mono ?_
  rintro e w1 ⟨rfl, rfl⟩
  go_wp2_with fail
  refine (two_any _ (Gm.fst (Gm.fst 0 (Gm.twoE m0 n0 m1 n2)) (Gm.twoE m0 n1 m1 n3)) m2 n0 m3 n2 _ (by simp [go_sem]) (by simp [go_sem])).mono ?_
  rintro e w1 ⟨rfl, rfl⟩
  go_wp2_with fail
  refine (two_any _ (Gm.fst (Gm.fst (Gm.fst 0 (Gm.twoE m0 n0 m1 n2)) (Gm.twoE m0 n1 m1 n3)) (Gm.twoE m2 n0 m3 n2)) m2 n1 m3 n3 _ (by simp [go_sem]) (by simp [go_sem])).mono ?_
  rintro e w1 ⟨rfl, rfl⟩
  go_wp2_with fail
  go_region_held3 (fun w' => w'.cell? ⟨w.heap.size, 0, none⟩ = some (.int .i64 m0) ∧ w'.cell? ⟨w.heap.size, 1, none⟩ = some (.int .i64 m1) ∧ w'.cell? ⟨w.heap.size, 2, none⟩ = some (.int .i64 m2) ∧ w'.cell? ⟨w.heap.size, 3, none⟩ = some (.int .i64 m3) ∧ w'.cell? ⟨w.heap.size, 4, none⟩ = some (.int .i64 m4) ∧ w'.cell? ⟨w.heap.size, 5, none⟩ = some (.int .i64 m5) ∧ w'.cell? ⟨w.heap.size + 1, 0, none⟩ = some (.int .i64 n0) ∧ w'.cell? ⟨w.heap.size + 1, 1, none⟩ = some (.int .i64 n1) ∧ w'.cell? ⟨w.heap.size + 1, 2, none⟩ = some (.int .i64 n2) ∧ w'.cell? ⟨w.heap.size + 1, 3, none⟩ = some (.int .i64 n3) ∧ w'.cell? ⟨w.heap.size + 1, 4, none⟩ = some (.int .i64 n4) ∧ w'.cell? ⟨w.heap.size + 1, 5, none⟩ = some (.int .i64 n5)) (first | (simp [go_sem]; done) | go_keep)
    (first
      | (go_at_call 33; refine (two_any _ (Gm.fst (Gm.fst (Gm.fst (Gm.fst 0 (Gm.twoE m0 n0 m1 n2)) (Gm.twoE m0 n1 m1 n3)) (Gm.twoE m2 n0 m3 n2)) (Gm.twoE m2 n1 m3 n3)) m4 n0 m5 n2 _ (by simp [go_sem]) (by simp [go_sem])).mono ?_; rintro e w1 ⟨rfl, rfl⟩)
      | (go_at_call 34; refine (plus_any _ (Gm.fst (Gm.fst (Gm.fst (Gm.fst (Gm.fst 0 (Gm.twoE m0 n0 m1 n2)) (Gm.twoE m0 n1 m1 n3)) (Gm.twoE m2 n0 m3 n2)) (Gm.twoE m2 n1 m3 n3)) (Gm.twoE m4 n0 m5 n2)) _ _ _ (by simp [go_sem]) (by simp [go_sem])).mono ?_; rintro e w1 ⟨rfl, rfl⟩))
  go_wp2_with fail
  go_region_held3 (fun w' => w'.cell? ⟨w.heap.size, 0, none⟩ = some (.int .i64 m0) ∧ w'.cell? ⟨w.heap.size, 1, none⟩ = some (.int .i64 m1) ∧ w'.cell? ⟨w.heap.size, 2, none⟩ = some (.int .i64 m2) ∧ w'.cell? ⟨w.heap.size, 3, none⟩ = some (.int .i64 m3) ∧ w'.cell? ⟨w.heap.size, 4, none⟩ = some (.int .i64 m4) ∧ w'.cell? ⟨w.heap.size, 5, none⟩ = some (.int .i64 m5) ∧ w'.cell? ⟨w.heap.size + 1, 0, none⟩ = some (.int .i64 n0) ∧ w'.cell? ⟨w.heap.size + 1, 1, none⟩ = some (.int .i64 n1) ∧ w'.cell? ⟨w.heap.size + 1, 2, none⟩ = some (.int .i64 n2) ∧ w'.cell? ⟨w.heap.size + 1, 3, none⟩ = some (.int .i64 n3) ∧ w'.cell? ⟨w.heap.size + 1, 4, none⟩ = some (.int .i64 n4) ∧ w'.cell? ⟨w.heap.size + 1, 5, none⟩ = some (.int .i64 n5)) (first | (simp [go_sem]; done) | go_keep)
    (first
      | (go_at_call 33; refine (two_any _ (Gm.fst (Gm.fst (Gm.fst (Gm.fst (Gm.fst (Gm.fst 0 (Gm.twoE m0 n0 m1 n2)) (Gm.twoE m0 n1 m1 n3)) (Gm.twoE m2 n0 m3 n2)) (Gm.twoE m2 n1 m3 n3)) (Gm.twoE m4 n0 m5 n2)) (Fx.addE (Gm.twoW m4 n0 m5 n2) n4)) m4 n1 m5 n3 _ (by simp [go_sem]) (by simp [go_sem])).mono ?_; rintro e w1 ⟨rfl, rfl⟩)
      | (go_at_call 34; refine (plus_any _ (Gm.fst (Gm.fst (Gm.fst (Gm.fst (Gm.fst (Gm.fst (Gm.fst 0 (Gm.twoE m0 n0 m1 n2)) (Gm.twoE m0 n1 m1 n3)) (Gm.twoE m2 n0 m3 n2)) (Gm.twoE m2 n1 m3 n3)) (Gm.twoE m4 n0 m5 n2)) (Fx.addE (Gm.twoW m4 n0 m5 n2) n4)) (Gm.twoE m4 n1 m5 n3)) _ _ _ (by simp [go_sem]) (by simp [go_sem])).mono ?_; rintro e w1 ⟨rfl, rfl⟩))
  go_wp2_with fail
  refine bodyPost_ret (v := .tuple #[.agg #[.int .i64 (Gm.twoW m0 n0 m1 n2), .int .i64 (Gm.twoW m0 n1 m1 n3), .int .i64 (Gm.twoW m2 n0 m3 n2), .int .i64 (Gm.twoW m2 n1 m3 n3), .int .i64 (Fx.addV (Gm.twoW m4 n0 m5 n2) n4), .int .i64 (Fx.addV (Gm.twoW m4 n1 m5 n3) n5)], .int .i64 0]) ?_ rfl ⟨rfl, ?_⟩
  · simp [results, Try.results12, go_sem]
  · exact Kept.drew (Kept.drew ((((((Kept.refl w).allocO _).allocO _).allocO _).allocO _).allocO _))

set_option maxHeartbeats 8000000 in
set_option maxRecDepth 100000 in
theorem RMul2_err (m0 m1 m2 m3 m4 m5 n0 n1 n2 n3 n4 n5 : Int) (w : World) (h : ¬ Gm.matE m0 m1 m2 m3 m4 m5 n0 n1 n2 n3 n4 n5 = 0) :
    Calls Try.prog 12 #[.agg #[.int .i64 m0, .int .i64 m1, .int .i64 m2, .int .i64 m3, .int .i64 m4, .int .i64 m5], .agg #[.int .i64 n0, .int .i64 n1, .int .i64 n2, .int .i64 n3, .int .i64 n4, .int .i64 n5]] w fun e w' => e = .returned (.tuple #[.agg #[.int .i64 0, .int .i64 0, .int .i64 0, .int .i64 0, .int .i64 0, .int .i64 0], .int .i64 (Gm.fst (Gm.fst (Gm.fst (Gm.fst (Gm.fst (Gm.fst (Gm.fst (Gm.fst 0 (Gm.twoE m0 n0 m1 n2)) (Gm.twoE m0 n1 m1 n3)) (Gm.twoE m2 n0 m3 n2)) (Gm.twoE m2 n1 m3 n3)) (Gm.twoE m4 n0 m5 n2)) (Fx.addE (Gm.twoW m4 n0 m5 n2) n4)) (Gm.twoE m4 n1 m5 n3)) (Fx.addE (Gm.twoW m4 n1 m5 n3) n5))]) ∧ Kept w w' := by
  have t0 : ((Gm.fst (Gm.fst (Gm.fst (Gm.fst (Gm.fst (Gm.fst (Gm.fst (Gm.fst 0 (Gm.twoE m0 n0 m1 n2)) (Gm.twoE m0 n1 m1 n3)) (Gm.twoE m2 n0 m3 n2)) (Gm.twoE m2 n1 m3 n3)) (Gm.twoE m4 n0 m5 n2)) (Fx.addE (Gm.twoW m4 n0 m5 n2) n4)) (Gm.twoE m4 n1 m5 n3)) (Fx.addE (Gm.twoW m4 n1 m5 n3) n5)) != 0) = true := by rw [Gm.mat_raw]; exact ne_yes h
  clear h
  go_enter Try.func12, Try.ntmps12
  go_wp2_with fail
  refine (two_any _ 0 m0 n0 m1 n2 _ (by simp [go_sem]) (by simp [go_sem])).mono ?_
  rintro e w1 ⟨rfl, rfl⟩
  go_wp2_with fail
  refine (two_any _ (Gm.fst 0 (Gm.twoE m0 n0 m1 n2)) m0 n1 m1 n3 _ (by simp [go_sem]) (by simp [go_sem])).mono ?_
  rintro e w1 ⟨rfl, rfl⟩
  go_wp2_with fail
  refine (two_any _ (Gm.fst (Gm.fst 0 (Gm.twoE m0 n0 m1 n2)) (Gm.twoE m0 n1 m1 n3)) m2 n0 m3 n2 _ (by simp [go_sem]) (by simp [go_sem])).mono ?_
  rintro e w1 ⟨rfl, rfl⟩
  go_wp2_with fail
  refine (two_any _ (Gm.fst (Gm.fst (Gm.fst 0 (Gm.twoE m0 n0 m1 n2)) (Gm.twoE m0 n1 m1 n3)) (Gm.twoE m2 n0 m3 n2)) m2 n1 m3 n3 _ (by simp [go_sem]) (by simp [go_sem])).mono ?_
  rintro e w1 ⟨rfl, rfl⟩
  go_wp2_with fail
  go_region_held3 (fun w' => w'.cell? ⟨w.heap.size, 0, none⟩ = some (.int .i64 m0) ∧ w'.cell? ⟨w.heap.size, 1, none⟩ = some (.int .i64 m1) ∧ w'.cell? ⟨w.heap.size, 2, none⟩ = some (.int .i64 m2) ∧ w'.cell? ⟨w.heap.size, 3, none⟩ = some (.int .i64 m3) ∧ w'.cell? ⟨w.heap.size, 4, none⟩ = some (.int .i64 m4) ∧ w'.cell? ⟨w.heap.size, 5, none⟩ = some (.int .i64 m5) ∧ w'.cell? ⟨w.heap.size + 1, 0, none⟩ = some (.int .i64 n0) ∧ w'.cell? ⟨w.heap.size + 1, 1, none⟩ = some (.int .i64 n1) ∧ w'.cell? ⟨w.heap.size + 1, 2, none⟩ = some (.int .i64 n2) ∧ w'.cell? ⟨w.heap.size + 1, 3, none⟩ = some (.int .i64 n3) ∧ w'.cell? ⟨w.heap.size + 1, 4, none⟩ = some (.int .i64 n4) ∧ w'.cell? ⟨w.heap.size + 1, 5, none⟩ = some (.int .i64 n5)) (first | (simp [go_sem]; done) | go_keep)
    (first
      | (go_at_call 33; refine (two_any _ (Gm.fst (Gm.fst (Gm.fst (Gm.fst 0 (Gm.twoE m0 n0 m1 n2)) (Gm.twoE m0 n1 m1 n3)) (Gm.twoE m2 n0 m3 n2)) (Gm.twoE m2 n1 m3 n3)) m4 n0 m5 n2 _ (by simp [go_sem]) (by simp [go_sem])).mono ?_; rintro e w1 ⟨rfl, rfl⟩)
      | (go_at_call 34; refine (plus_any _ (Gm.fst (Gm.fst (Gm.fst (Gm.fst (Gm.fst 0 (Gm.twoE m0 n0 m1 n2)) (Gm.twoE m0 n1 m1 n3)) (Gm.twoE m2 n0 m3 n2)) (Gm.twoE m2 n1 m3 n3)) (Gm.twoE m4 n0 m5 n2)) _ _ _ (by simp [go_sem]) (by simp [go_sem])).mono ?_; rintro e w1 ⟨rfl, rfl⟩))
  go_wp2_with fail
  go_region_held3 (fun w' => w'.cell? ⟨w.heap.size, 0, none⟩ = some (.int .i64 m0) ∧ w'.cell? ⟨w.heap.size, 1, none⟩ = some (.int .i64 m1) ∧ w'.cell? ⟨w.heap.size, 2, none⟩ = some (.int .i64 m2) ∧ w'.cell? ⟨w.heap.size, 3, none⟩ = some (.int .i64 m3) ∧ w'.cell? ⟨w.heap.size, 4, none⟩ = some (.int .i64 m4) ∧ w'.cell? ⟨w.heap.size, 5, none⟩ = some (.int .i64 m5) ∧ w'.cell? ⟨w.heap.size + 1, 0, none⟩ = some (.int .i64 n0) ∧ w'.cell? ⟨w.heap.size + 1, 1, none⟩ = some (.int .i64 n1) ∧ w'.cell? ⟨w.heap.size + 1, 2, none⟩ = some (.int .i64 n2) ∧ w'.cell? ⟨w.heap.size + 1, 3, none⟩ = some (.int .i64 n3) ∧ w'.cell? ⟨w.heap.size + 1, 4, none⟩ = some (.int .i64 n4) ∧ w'.cell? ⟨w.heap.size + 1, 5, none⟩ = some (.int .i64 n5)) (first | (simp [go_sem]; done) | go_keep)
    (first
      | (go_at_call 33; refine (two_any _ (Gm.fst (Gm.fst (Gm.fst (Gm.fst (Gm.fst (Gm.fst 0 (Gm.twoE m0 n0 m1 n2)) (Gm.twoE m0 n1 m1 n3)) (Gm.twoE m2 n0 m3 n2)) (Gm.twoE m2 n1 m3 n3)) (Gm.twoE m4 n0 m5 n2)) (Fx.addE (Gm.twoW m4 n0 m5 n2) n4)) m4 n1 m5 n3 _ (by simp [go_sem]) (by simp [go_sem])).mono ?_; rintro e w1 ⟨rfl, rfl⟩)
      | (go_at_call 34; refine (plus_any _ (Gm.fst (Gm.fst (Gm.fst (Gm.fst (Gm.fst (Gm.fst (Gm.fst 0 (Gm.twoE m0 n0 m1 n2)) (Gm.twoE m0 n1 m1 n3)) (Gm.twoE m2 n0 m3 n2)) (Gm.twoE m2 n1 m3 n3)) (Gm.twoE m4 n0 m5 n2)) (Fx.addE (Gm.twoW m4 n0 m5 n2) n4)) (Gm.twoE m4 n1 m5 n3)) _ _ _ (by simp [go_sem]) (by simp [go_sem])).mono ?_; rintro e w1 ⟨rfl, rfl⟩))
  go_wp2_with fail
  go_region_held3 (fun w' => w'.cell? ⟨w.heap.size + 1 + 1 + 1, 0, none⟩ = some (.int .i64 (Gm.fst (Gm.fst (Gm.fst (Gm.fst (Gm.fst (Gm.fst (Gm.fst (Gm.fst 0 (Gm.twoE m0 n0 m1 n2)) (Gm.twoE m0 n1 m1 n3)) (Gm.twoE m2 n0 m3 n2)) (Gm.twoE m2 n1 m3 n3)) (Gm.twoE m4 n0 m5 n2)) (Fx.addE (Gm.twoW m4 n0 m5 n2) n4)) (Gm.twoE m4 n1 m5 n3)) (Fx.addE (Gm.twoW m4 n1 m5 n3) n5)))) (first | (simp [go_sem]; done) | go_keep)
    (fail)
  go_wp2_with fail
  refine bodyPost_ret (v := .tuple #[.agg #[.int .i64 0, .int .i64 0, .int .i64 0, .int .i64 0, .int .i64 0, .int .i64 0], .int .i64 (Gm.fst (Gm.fst (Gm.fst (Gm.fst (Gm.fst (Gm.fst (Gm.fst (Gm.fst 0 (Gm.twoE m0 n0 m1 n2)) (Gm.twoE m0 n1 m1 n3)) (Gm.twoE m2 n0 m3 n2)) (Gm.twoE m2 n1 m3 n3)) (Gm.twoE m4 n0 m5 n2)) (Fx.addE (Gm.twoW m4 n0 m5 n2) n4)) (Gm.twoE m4 n1 m5 n3)) (Fx.addE (Gm.twoW m4 n1 m5 n3) n5))]) ?_ rfl ⟨rfl, ?_⟩
  · simp [results, Try.results12, go_sem]
  · exact Kept.drew (Kept.drew (Kept.drew ((((((Kept.refl w).allocO _).allocO _).allocO _).allocO _).allocO _)))

theorem RMul2_any (m0 m1 m2 m3 m4 m5 n0 n1 n2 n3 n4 n5 : Int) (w : World) :
    Calls Try.prog 12 #[.agg #[.int .i64 m0, .int .i64 m1, .int .i64 m2, .int .i64 m3, .int .i64 m4, .int .i64 m5], .agg #[.int .i64 n0, .int .i64 n1, .int .i64 n2, .int .i64 n3, .int .i64 n4, .int .i64 n5]] w fun e w' => e = .returned (.tuple #[.agg #[.int .i64 (Gm.zif (Gm.matE m0 m1 m2 m3 m4 m5 n0 n1 n2 n3 n4 n5) (Gm.twoV m0 n0 m1 n2)), .int .i64 (Gm.zif (Gm.matE m0 m1 m2 m3 m4 m5 n0 n1 n2 n3 n4 n5) (Gm.twoV m0 n1 m1 n3)), .int .i64 (Gm.zif (Gm.matE m0 m1 m2 m3 m4 m5 n0 n1 n2 n3 n4 n5) (Gm.twoV m2 n0 m3 n2)), .int .i64 (Gm.zif (Gm.matE m0 m1 m2 m3 m4 m5 n0 n1 n2 n3 n4 n5) (Gm.twoV m2 n1 m3 n3)), .int .i64 (Gm.zif (Gm.matE m0 m1 m2 m3 m4 m5 n0 n1 n2 n3 n4 n5) (Gm.plsV m4 n0 m5 n2 n4)), .int .i64 (Gm.zif (Gm.matE m0 m1 m2 m3 m4 m5 n0 n1 n2 n3 n4 n5) (Gm.plsV m4 n1 m5 n3 n5))], .int .i64 (Gm.matE m0 m1 m2 m3 m4 m5 n0 n1 n2 n3 n4 n5)]) ∧ Kept w w' := by
  by_cases h : Gm.matE m0 m1 m2 m3 m4 m5 n0 n1 n2 n3 n4 n5 = 0
  · have k := RMul2_ok m0 m1 m2 m3 m4 m5 n0 n1 n2 n3 n4 n5 w h
    obtain ⟨z0, z1, z2, z3, z4, z5⟩ := Gm.mat_zero h
    rw [Gm.twoW_ok z0, Gm.twoW_ok z1, Gm.twoW_ok z2, Gm.twoW_ok z3, Gm.pls_val z4, Gm.pls_val z5] at k
    rw [h]
    simp only [Gm.zif_ok rfl]
    exact k
  · have k := RMul2_err m0 m1 m2 m3 m4 m5 n0 n1 n2 n3 n4 n5 w h
    rw [Gm.mat_raw] at k
    simp only [Gm.zif_no h]
    exact k

end Go.Proofs.Ytbckjejflbfjlaa
