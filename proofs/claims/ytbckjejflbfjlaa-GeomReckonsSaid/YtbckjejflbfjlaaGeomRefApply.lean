/-
  What the document's own Apply (the reference) answers.
-/
import Derived.Test.YtbckjejflbfjlaaGeomRefMatMath
import Derived.Test.YtbckjejflbfjlaaBlk
import Derived.Deep.RegionHeld3
namespace Go.Proofs.Ytbckjejflbfjlaa
open Go.RowKit

set_option maxHeartbeats 4000000 in
theorem RApply_ok (m0 m1 m2 m3 m4 m5 x y : Int) (w : World) (h : Gm.appE m0 m1 m2 m3 m4 m5 x y = 0) :
    Calls Try.prog 14 #[.agg #[.int .i64 m0, .int .i64 m1, .int .i64 m2, .int .i64 m3, .int .i64 m4, .int .i64 m5], .int .i64 x, .int .i64 y] w fun e w' => e = .returned (.tuple #[.int .i64 (Gm.appX m0 m1 m2 m3 m4 m5 x y), .int .i64 (Gm.appY m0 m1 m2 m3 m4 m5 x y), .int .i64 (Gm.appE m0 m1 m2 m3 m4 m5 x y)]) ∧ Kept w w' := by
  have H := Lib.hid (show Gm.appX m0 m1 m2 m3 m4 m5 x y = Fx.addV (Gm.twoW x m0 y m2) m4 ∧ Gm.appY m0 m1 m2 m3 m4 m5 x y = Fx.addV (Gm.twoW x m1 y m3) m5 ∧ Gm.appE m0 m1 m2 m3 m4 m5 x y = 0 from by
    obtain ⟨p, q⟩ := Gm.fst_eq_zero.1 h
    exact ⟨(if_pos h).trans (Gm.pls_val p).symm, (if_pos h).trans (Gm.pls_val q).symm, h⟩)
  have HS := Lib.hid (Gm.app_raw m0 m1 m2 m3 m4 m5 x y)
  have t0 : ((Gm.fst (Gm.fst (Gm.fst (Gm.fst 0 (Gm.twoE x m0 y m2)) (Fx.addE (Gm.twoW x m0 y m2) m4)) (Gm.twoE x m1 y m3)) (Fx.addE (Gm.twoW x m1 y m3) m5)) != 0) = false := by rw [HS.out]; exact ne_no h
  clear h
  go_enter Try.func14, Try.ntmps14
  go_wp2_with fail
  go_region_held3 (fun w' => w'.cell? ⟨w.heap.size, 0, none⟩ = some (.int .i64 m0) ∧ w'.cell? ⟨w.heap.size, 1, none⟩ = some (.int .i64 m1) ∧ w'.cell? ⟨w.heap.size, 2, none⟩ = some (.int .i64 m2) ∧ w'.cell? ⟨w.heap.size, 3, none⟩ = some (.int .i64 m3) ∧ w'.cell? ⟨w.heap.size, 4, none⟩ = some (.int .i64 m4) ∧ w'.cell? ⟨w.heap.size, 5, none⟩ = some (.int .i64 m5)) (first | (simp [go_sem]; done) | go_keep)
    (first
      | (go_at_call 33; refine (two_any _ 0 x m0 y m2 _ (by simp [go_sem]) (by simp [go_sem])).mono ?_; rintro e w1 ⟨rfl, rfl⟩)
      | (go_at_call 34; refine (plus_any _ (Gm.fst 0 (Gm.twoE x m0 y m2)) _ _ _ (by simp [go_sem]) (by simp [go_sem])).mono ?_; rintro e w1 ⟨rfl, rfl⟩))
  go_wp2_with fail
  go_region_held3 (fun w' => w'.cell? ⟨w.heap.size, 0, none⟩ = some (.int .i64 m0) ∧ w'.cell? ⟨w.heap.size, 1, none⟩ = some (.int .i64 m1) ∧ w'.cell? ⟨w.heap.size, 2, none⟩ = some (.int .i64 m2) ∧ w'.cell? ⟨w.heap.size, 3, none⟩ = some (.int .i64 m3) ∧ w'.cell? ⟨w.heap.size, 4, none⟩ = some (.int .i64 m4) ∧ w'.cell? ⟨w.heap.size, 5, none⟩ = some (.int .i64 m5)) (first | (simp [go_sem]; done) | go_keep)
    (first
      | (go_at_call 33; refine (two_any _ (Gm.fst (Gm.fst 0 (Gm.twoE x m0 y m2)) (Fx.addE (Gm.twoW x m0 y m2) m4)) x m1 y m3 _ (by simp [go_sem]) (by simp [go_sem])).mono ?_; rintro e w1 ⟨rfl, rfl⟩)
      | (go_at_call 34; refine (plus_any _ (Gm.fst (Gm.fst (Gm.fst 0 (Gm.twoE x m0 y m2)) (Fx.addE (Gm.twoW x m0 y m2) m4)) (Gm.twoE x m1 y m3)) _ _ _ (by simp [go_sem]) (by simp [go_sem])).mono ?_; rintro e w1 ⟨rfl, rfl⟩))
  go_wp2_with fail
  go_ret3
  exact ⟨ret_ints3 H.out.1.symm H.out.2.1.symm H.out.2.2.symm, Kept.drew (Kept.drew (((Kept.refl w).allocO _).allocO _))⟩

set_option maxHeartbeats 4000000 in
theorem RApply_err (m0 m1 m2 m3 m4 m5 x y : Int) (w : World) (h : ¬ Gm.appE m0 m1 m2 m3 m4 m5 x y = 0) :
    Calls Try.prog 14 #[.agg #[.int .i64 m0, .int .i64 m1, .int .i64 m2, .int .i64 m3, .int .i64 m4, .int .i64 m5], .int .i64 x, .int .i64 y] w fun e w' => e = .returned (.tuple #[.int .i64 (Gm.appX m0 m1 m2 m3 m4 m5 x y), .int .i64 (Gm.appY m0 m1 m2 m3 m4 m5 x y), .int .i64 (Gm.appE m0 m1 m2 m3 m4 m5 x y)]) ∧ Kept w w' := by
  have H := Lib.hid (show Gm.appX m0 m1 m2 m3 m4 m5 x y = 0 ∧ Gm.appY m0 m1 m2 m3 m4 m5 x y = 0 from ⟨if_neg h, if_neg h⟩)
  have HS := Lib.hid (Gm.app_raw m0 m1 m2 m3 m4 m5 x y)
  have t0 : ((Gm.fst (Gm.fst (Gm.fst (Gm.fst 0 (Gm.twoE x m0 y m2)) (Fx.addE (Gm.twoW x m0 y m2) m4)) (Gm.twoE x m1 y m3)) (Fx.addE (Gm.twoW x m1 y m3) m5)) != 0) = true := by rw [HS.out]; exact ne_yes h
  clear h
  go_enter Try.func14, Try.ntmps14
  go_wp2_with fail
  go_region_held3 (fun w' => w'.cell? ⟨w.heap.size, 0, none⟩ = some (.int .i64 m0) ∧ w'.cell? ⟨w.heap.size, 1, none⟩ = some (.int .i64 m1) ∧ w'.cell? ⟨w.heap.size, 2, none⟩ = some (.int .i64 m2) ∧ w'.cell? ⟨w.heap.size, 3, none⟩ = some (.int .i64 m3) ∧ w'.cell? ⟨w.heap.size, 4, none⟩ = some (.int .i64 m4) ∧ w'.cell? ⟨w.heap.size, 5, none⟩ = some (.int .i64 m5)) (first | (simp [go_sem]; done) | go_keep)
    (first
      | (go_at_call 33; refine (two_any _ 0 x m0 y m2 _ (by simp [go_sem]) (by simp [go_sem])).mono ?_; rintro e w1 ⟨rfl, rfl⟩)
      | (go_at_call 34; refine (plus_any _ (Gm.fst 0 (Gm.twoE x m0 y m2)) _ _ _ (by simp [go_sem]) (by simp [go_sem])).mono ?_; rintro e w1 ⟨rfl, rfl⟩))
  go_wp2_with fail
  go_region_held3 (fun w' => w'.cell? ⟨w.heap.size, 0, none⟩ = some (.int .i64 m0) ∧ w'.cell? ⟨w.heap.size, 1, none⟩ = some (.int .i64 m1) ∧ w'.cell? ⟨w.heap.size, 2, none⟩ = some (.int .i64 m2) ∧ w'.cell? ⟨w.heap.size, 3, none⟩ = some (.int .i64 m3) ∧ w'.cell? ⟨w.heap.size, 4, none⟩ = some (.int .i64 m4) ∧ w'.cell? ⟨w.heap.size, 5, none⟩ = some (.int .i64 m5)) (first | (simp [go_sem]; done) | go_keep)
    (first
      | (go_at_call 33; refine (two_any _ (Gm.fst (Gm.fst 0 (Gm.twoE x m0 y m2)) (Fx.addE (Gm.twoW x m0 y m2) m4)) x m1 y m3 _ (by simp [go_sem]) (by simp [go_sem])).mono ?_; rintro e w1 ⟨rfl, rfl⟩)
      | (go_at_call 34; refine (plus_any _ (Gm.fst (Gm.fst (Gm.fst 0 (Gm.twoE x m0 y m2)) (Fx.addE (Gm.twoW x m0 y m2) m4)) (Gm.twoE x m1 y m3)) _ _ _ (by simp [go_sem]) (by simp [go_sem])).mono ?_; rintro e w1 ⟨rfl, rfl⟩))
  go_wp2_with fail
  go_quiet (fail)
  go_wp2_with fail
  go_ret3
  exact ⟨ret_ints3 H.out.1.symm H.out.2.symm HS.out, Kept.drewN (Kept.drew (Kept.drew (((Kept.refl w).allocO _).allocO _))) _⟩

theorem RApply_any (m0 m1 m2 m3 m4 m5 x y : Int) (w : World) :
    Calls Try.prog 14 #[.agg #[.int .i64 m0, .int .i64 m1, .int .i64 m2, .int .i64 m3, .int .i64 m4, .int .i64 m5], .int .i64 x, .int .i64 y] w fun e w' => e = .returned (.tuple #[.int .i64 (Gm.appX m0 m1 m2 m3 m4 m5 x y), .int .i64 (Gm.appY m0 m1 m2 m3 m4 m5 x y), .int .i64 (Gm.appE m0 m1 m2 m3 m4 m5 x y)]) ∧ Kept w w' := by
  by_cases h : Gm.appE m0 m1 m2 m3 m4 m5 x y = 0
  · exact RApply_ok m0 m1 m2 m3 m4 m5 x y w h
  · exact RApply_err m0 m1 m2 m3 m4 m5 x y w h

end Go.Proofs.Ytbckjejflbfjlaa
