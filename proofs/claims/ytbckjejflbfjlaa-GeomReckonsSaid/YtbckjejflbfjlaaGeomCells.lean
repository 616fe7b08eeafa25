/-
  What package geom's cell answers: each number of a product.
-/
import Derived.Test.YtbckjejflbfjlaaGeomApply
import Derived.Deep.RegionHeld3
namespace Go.Proofs.Ytbckjejflbfjlaa
open Go.RowKit

set_option maxHeartbeats 1000000 in
theorem cell_0 (m0 m1 m2 m3 m4 m5 n0 n1 n2 n3 n4 n5 : Int) (w : World) :
    Calls Try.prog 32 #[.agg #[.int .i64 m0, .int .i64 m1, .int .i64 m2, .int .i64 m3, .int .i64 m4, .int .i64 m5], .agg #[.int .i64 n0, .int .i64 n1, .int .i64 n2, .int .i64 n3, .int .i64 n4, .int .i64 n5], .int .i64 0] w fun e w' => e = .returned (.tuple #[.int .i64 (Gm.twoV m0 n0 m1 n2), .int .i64 (Gm.twoE m0 n0 m1 n2)]) ∧ Kept w w' := by
  have hw : IntKind.i64.wrap 1 = 1 := by decide
  go_enter Try.func32, Try.ntmps32
  go_wp2_with fail
  go_region_held3 (fun w' => w'.cell? ⟨w.heap.size, 0, none⟩ = some (.int .i64 m0) ∧ w'.cell? ⟨w.heap.size, 1, none⟩ = some (.int .i64 m1) ∧ w'.cell? ⟨w.heap.size + 1, 0, none⟩ = some (.int .i64 n0) ∧ w'.cell? ⟨w.heap.size + 1, 1, none⟩ = some (.int .i64 n1) ∧ w'.cell? ⟨w.heap.size + 1, 2, none⟩ = some (.int .i64 n2) ∧ w'.cell? ⟨w.heap.size + 1, 3, none⟩ = some (.int .i64 n3) ∧ w'.cell? ⟨w.heap.size + 1, 4, none⟩ = some (.int .i64 n4) ∧ w'.cell? ⟨w.heap.size + 1, 5, none⟩ = some (.int .i64 n5)) (first | go_keep | (obtain ⟨c1, f1⟩ := k1.cells; simp [c1, go_sem]))
    (first | (go_at_call 47; refine (turned_0 n0 n1 n2 n3 n4 n5 _ _ _).mono ?_; rintro e w1 ⟨rfl, k1⟩))
  go_wp2_with fail
  go_ret2
  exact ⟨rfl, (((Kept.refl _).alloc _ _).alloc _ _).drew.trans k1⟩

set_option maxHeartbeats 1000000 in
theorem cell_1 (m0 m1 m2 m3 m4 m5 n0 n1 n2 n3 n4 n5 : Int) (w : World) :
    Calls Try.prog 32 #[.agg #[.int .i64 m0, .int .i64 m1, .int .i64 m2, .int .i64 m3, .int .i64 m4, .int .i64 m5], .agg #[.int .i64 n0, .int .i64 n1, .int .i64 n2, .int .i64 n3, .int .i64 n4, .int .i64 n5], .int .i64 1] w fun e w' => e = .returned (.tuple #[.int .i64 (Gm.twoV m0 n1 m1 n3), .int .i64 (Gm.twoE m0 n1 m1 n3)]) ∧ Kept w w' := by
  have hw : IntKind.i64.wrap 1 = 1 := by decide
  go_enter Try.func32, Try.ntmps32
  go_wp2_with fail
  go_region_held3 (fun w' => w'.cell? ⟨w.heap.size, 0, none⟩ = some (.int .i64 m0) ∧ w'.cell? ⟨w.heap.size, 1, none⟩ = some (.int .i64 m1) ∧ w'.cell? ⟨w.heap.size + 1, 0, none⟩ = some (.int .i64 n0) ∧ w'.cell? ⟨w.heap.size + 1, 1, none⟩ = some (.int .i64 n1) ∧ w'.cell? ⟨w.heap.size + 1, 2, none⟩ = some (.int .i64 n2) ∧ w'.cell? ⟨w.heap.size + 1, 3, none⟩ = some (.int .i64 n3) ∧ w'.cell? ⟨w.heap.size + 1, 4, none⟩ = some (.int .i64 n4) ∧ w'.cell? ⟨w.heap.size + 1, 5, none⟩ = some (.int .i64 n5)) (first | go_keep | (obtain ⟨c1, f1⟩ := k1.cells; simp [c1, go_sem]))
    (first | (go_at_call 47; refine (turned_1 n0 n1 n2 n3 n4 n5 _ _ _).mono ?_; rintro e w1 ⟨rfl, k1⟩))
  go_wp2_with fail
  go_ret2
  exact ⟨rfl, (((Kept.refl _).alloc _ _).alloc _ _).drew.trans k1⟩

set_option maxHeartbeats 1000000 in
theorem cell_2 (m0 m1 m2 m3 m4 m5 n0 n1 n2 n3 n4 n5 : Int) (w : World) :
    Calls Try.prog 32 #[.agg #[.int .i64 m0, .int .i64 m1, .int .i64 m2, .int .i64 m3, .int .i64 m4, .int .i64 m5], .agg #[.int .i64 n0, .int .i64 n1, .int .i64 n2, .int .i64 n3, .int .i64 n4, .int .i64 n5], .int .i64 2] w fun e w' => e = .returned (.tuple #[.int .i64 (Gm.twoV m2 n0 m3 n2), .int .i64 (Gm.twoE m2 n0 m3 n2)]) ∧ Kept w w' := by
  have hw : IntKind.i64.wrap 3 = 3 := by decide
  go_enter Try.func32, Try.ntmps32
  go_wp2_with fail
  go_region_held3 (fun w' => w'.cell? ⟨w.heap.size, 2, none⟩ = some (.int .i64 m2) ∧ w'.cell? ⟨w.heap.size, 3, none⟩ = some (.int .i64 m3) ∧ w'.cell? ⟨w.heap.size + 1, 0, none⟩ = some (.int .i64 n0) ∧ w'.cell? ⟨w.heap.size + 1, 1, none⟩ = some (.int .i64 n1) ∧ w'.cell? ⟨w.heap.size + 1, 2, none⟩ = some (.int .i64 n2) ∧ w'.cell? ⟨w.heap.size + 1, 3, none⟩ = some (.int .i64 n3) ∧ w'.cell? ⟨w.heap.size + 1, 4, none⟩ = some (.int .i64 n4) ∧ w'.cell? ⟨w.heap.size + 1, 5, none⟩ = some (.int .i64 n5)) (first | go_keep | (obtain ⟨c1, f1⟩ := k1.cells; simp [c1, go_sem]))
    (first | (go_at_call 47; refine (turned_0 n0 n1 n2 n3 n4 n5 _ _ _).mono ?_; rintro e w1 ⟨rfl, k1⟩))
  go_wp2_with fail
  go_ret2
  exact ⟨rfl, (((Kept.refl _).alloc _ _).alloc _ _).drew.trans k1⟩

set_option maxHeartbeats 1000000 in
theorem cell_3 (m0 m1 m2 m3 m4 m5 n0 n1 n2 n3 n4 n5 : Int) (w : World) :
    Calls Try.prog 32 #[.agg #[.int .i64 m0, .int .i64 m1, .int .i64 m2, .int .i64 m3, .int .i64 m4, .int .i64 m5], .agg #[.int .i64 n0, .int .i64 n1, .int .i64 n2, .int .i64 n3, .int .i64 n4, .int .i64 n5], .int .i64 3] w fun e w' => e = .returned (.tuple #[.int .i64 (Gm.twoV m2 n1 m3 n3), .int .i64 (Gm.twoE m2 n1 m3 n3)]) ∧ Kept w w' := by
  have hw : IntKind.i64.wrap 3 = 3 := by decide
  go_enter Try.func32, Try.ntmps32
  go_wp2_with fail
  go_region_held3 (fun w' => w'.cell? ⟨w.heap.size, 2, none⟩ = some (.int .i64 m2) ∧ w'.cell? ⟨w.heap.size, 3, none⟩ = some (.int .i64 m3) ∧ w'.cell? ⟨w.heap.size + 1, 0, none⟩ = some (.int .i64 n0) ∧ w'.cell? ⟨w.heap.size + 1, 1, none⟩ = some (.int .i64 n1) ∧ w'.cell? ⟨w.heap.size + 1, 2, none⟩ = some (.int .i64 n2) ∧ w'.cell? ⟨w.heap.size + 1, 3, none⟩ = some (.int .i64 n3) ∧ w'.cell? ⟨w.heap.size + 1, 4, none⟩ = some (.int .i64 n4) ∧ w'.cell? ⟨w.heap.size + 1, 5, none⟩ = some (.int .i64 n5)) (first | go_keep | (obtain ⟨c1, f1⟩ := k1.cells; simp [c1, go_sem]))
    (first | (go_at_call 47; refine (turned_1 n0 n1 n2 n3 n4 n5 _ _ _).mono ?_; rintro e w1 ⟨rfl, k1⟩))
  go_wp2_with fail
  go_ret2
  exact ⟨rfl, (((Kept.refl _).alloc _ _).alloc _ _).drew.trans k1⟩

set_option maxHeartbeats 1000000 in
theorem cell_4 (m0 m1 m2 m3 m4 m5 n0 n1 n2 n3 n4 n5 : Int) (w : World) :
    Calls Try.prog 32 #[.agg #[.int .i64 m0, .int .i64 m1, .int .i64 m2, .int .i64 m3, .int .i64 m4, .int .i64 m5], .agg #[.int .i64 n0, .int .i64 n1, .int .i64 n2, .int .i64 n3, .int .i64 n4, .int .i64 n5], .int .i64 4] w fun e w' => e = .returned (.tuple #[.int .i64 (Gm.plsV m4 n0 m5 n2 n4), .int .i64 (Gm.plsE m4 n0 m5 n2 n4)]) ∧ Kept w w' := by
  have hw : IntKind.i64.wrap 5 = 5 := by decide
  go_enter Try.func32, Try.ntmps32
  go_wp2_with fail
  go_region_held3 (fun w' => w'.cell? ⟨w.heap.size, 4, none⟩ = some (.int .i64 m4) ∧ w'.cell? ⟨w.heap.size, 5, none⟩ = some (.int .i64 m5) ∧ w'.cell? ⟨w.heap.size + 1, 0, none⟩ = some (.int .i64 n0) ∧ w'.cell? ⟨w.heap.size + 1, 1, none⟩ = some (.int .i64 n1) ∧ w'.cell? ⟨w.heap.size + 1, 2, none⟩ = some (.int .i64 n2) ∧ w'.cell? ⟨w.heap.size + 1, 3, none⟩ = some (.int .i64 n3) ∧ w'.cell? ⟨w.heap.size + 1, 4, none⟩ = some (.int .i64 n4) ∧ w'.cell? ⟨w.heap.size + 1, 5, none⟩ = some (.int .i64 n5)) (first | go_keep | (obtain ⟨c1, f1⟩ := k1.cells; simp [c1, go_sem]))
    (first | (go_at_call 35; refine (moved_0 n0 n1 n2 n3 n4 n5 _ _ _).mono ?_; rintro e w1 ⟨rfl, k1⟩))
  go_wp2_with fail
  go_ret2
  exact ⟨rfl, (((Kept.refl _).alloc _ _).alloc _ _).drew.trans k1⟩

set_option maxHeartbeats 1000000 in
theorem cell_5 (m0 m1 m2 m3 m4 m5 n0 n1 n2 n3 n4 n5 : Int) (w : World) :
    Calls Try.prog 32 #[.agg #[.int .i64 m0, .int .i64 m1, .int .i64 m2, .int .i64 m3, .int .i64 m4, .int .i64 m5], .agg #[.int .i64 n0, .int .i64 n1, .int .i64 n2, .int .i64 n3, .int .i64 n4, .int .i64 n5], .int .i64 5] w fun e w' => e = .returned (.tuple #[.int .i64 (Gm.plsV m4 n1 m5 n3 n5), .int .i64 (Gm.plsE m4 n1 m5 n3 n5)]) ∧ Kept w w' := by
  have hw : IntKind.i64.wrap 5 = 5 := by decide
  go_enter Try.func32, Try.ntmps32
  go_wp2_with fail
  go_region_held3 (fun w' => w'.cell? ⟨w.heap.size, 4, none⟩ = some (.int .i64 m4) ∧ w'.cell? ⟨w.heap.size, 5, none⟩ = some (.int .i64 m5) ∧ w'.cell? ⟨w.heap.size + 1, 0, none⟩ = some (.int .i64 n0) ∧ w'.cell? ⟨w.heap.size + 1, 1, none⟩ = some (.int .i64 n1) ∧ w'.cell? ⟨w.heap.size + 1, 2, none⟩ = some (.int .i64 n2) ∧ w'.cell? ⟨w.heap.size + 1, 3, none⟩ = some (.int .i64 n3) ∧ w'.cell? ⟨w.heap.size + 1, 4, none⟩ = some (.int .i64 n4) ∧ w'.cell? ⟨w.heap.size + 1, 5, none⟩ = some (.int .i64 n5)) (first | go_keep | (obtain ⟨c1, f1⟩ := k1.cells; simp [c1, go_sem]))
    (first | (go_at_call 35; refine (moved_1 n0 n1 n2 n3 n4 n5 _ _ _).mono ?_; rintro e w1 ⟨rfl, k1⟩))
  go_wp2_with fail
  go_ret2
  exact ⟨rfl, (((Kept.refl _).alloc _ _).alloc _ _).drew.trans k1⟩

end Go.Proofs.Ytbckjejflbfjlaa
