/-
  What package geom's Place answers.
-/
import Derived.Test.YtbckjejflbfjlaaGeomScales
import Derived.Test.YtbckjejflbfjlaaGeomBounds
namespace Go.Proofs.Ytbckjejflbfjlaa
open Go.RowKit

theorem Kept.set6 {a w : World} (h : Kept a w) {k : Nat} (hp : a.heap.size ≤ k) (v0 v1 v2 v3 v4 v5 : Value) :
    Kept a ((((((w.setCell ⟨k, 0, none⟩ v0).setCell ⟨k, 1, none⟩ v1).setCell ⟨k, 2, none⟩ v2).setCell ⟨k, 3, none⟩ v3).setCell ⟨k, 4, none⟩ v4).setCell ⟨k, 5, none⟩ v5) :=
  (((((h.set hp v0).set hp v1).set hp v2).set hp v3).set hp v4).set hp v5

set_option maxHeartbeats 4000000 in
theorem Place_0 (a b c d m0 m1 m2 m3 m4 m5 p q r s : Int) (w : World)  (h0 : ¬ Gm.bndE m0 m1 m2 m3 m4 m5 (min a c) (min b d) (max a c) (max b d) = 0) :
    Calls Try.prog 17 #[.agg #[.int .i64 a, .int .i64 b, .int .i64 c, .int .i64 d], .agg #[.int .i64 m0, .int .i64 m1, .int .i64 m2, .int .i64 m3, .int .i64 m4, .int .i64 m5], .agg #[.int .i64 p, .int .i64 q, .int .i64 r, .int .i64 s]] w fun e w' => e = .returned (.tuple #[.agg #[.int .i64 (Gm.plX (Gm.bndE m0 m1 m2 m3 m4 m5 (min a c) (min b d) (max a c) (max b d)) (Gm.bndA m0 m1 m2 m3 m4 m5 (min a c) (min b d) (max a c) (max b d)) (Gm.bndB m0 m1 m2 m3 m4 m5 (min a c) (min b d) (max a c) (max b d)) (Gm.bndC m0 m1 m2 m3 m4 m5 (min a c) (min b d) (max a c) (max b d)) (Gm.bndD m0 m1 m2 m3 m4 m5 (min a c) (min b d) (max a c) (max b d)) p q r s), .int .i64 0, .int .i64 0, .int .i64 (Gm.plY (Gm.bndE m0 m1 m2 m3 m4 m5 (min a c) (min b d) (max a c) (max b d)) (Gm.bndA m0 m1 m2 m3 m4 m5 (min a c) (min b d) (max a c) (max b d)) (Gm.bndB m0 m1 m2 m3 m4 m5 (min a c) (min b d) (max a c) (max b d)) (Gm.bndC m0 m1 m2 m3 m4 m5 (min a c) (min b d) (max a c) (max b d)) (Gm.bndD m0 m1 m2 m3 m4 m5 (min a c) (min b d) (max a c) (max b d)) p q r s), .int .i64 (Gm.plS (Gm.bndE m0 m1 m2 m3 m4 m5 (min a c) (min b d) (max a c) (max b d)) (Gm.bndA m0 m1 m2 m3 m4 m5 (min a c) (min b d) (max a c) (max b d)) (Gm.bndB m0 m1 m2 m3 m4 m5 (min a c) (min b d) (max a c) (max b d)) (Gm.bndC m0 m1 m2 m3 m4 m5 (min a c) (min b d) (max a c) (max b d)) (Gm.bndD m0 m1 m2 m3 m4 m5 (min a c) (min b d) (max a c) (max b d)) p q r s), .int .i64 (Gm.plT (Gm.bndE m0 m1 m2 m3 m4 m5 (min a c) (min b d) (max a c) (max b d)) (Gm.bndA m0 m1 m2 m3 m4 m5 (min a c) (min b d) (max a c) (max b d)) (Gm.bndB m0 m1 m2 m3 m4 m5 (min a c) (min b d) (max a c) (max b d)) (Gm.bndC m0 m1 m2 m3 m4 m5 (min a c) (min b d) (max a c) (max b d)) (Gm.bndD m0 m1 m2 m3 m4 m5 (min a c) (min b d) (max a c) (max b d)) p q r s)], .int .i64 (Gm.plE (Gm.bndE m0 m1 m2 m3 m4 m5 (min a c) (min b d) (max a c) (max b d)) (Gm.bndA m0 m1 m2 m3 m4 m5 (min a c) (min b d) (max a c) (max b d)) (Gm.bndB m0 m1 m2 m3 m4 m5 (min a c) (min b d) (max a c) (max b d)) (Gm.bndC m0 m1 m2 m3 m4 m5 (min a c) (min b d) (max a c) (max b d)) (Gm.bndD m0 m1 m2 m3 m4 m5 (min a c) (min b d) (max a c) (max b d)) p q r s)]) ∧ Kept w w' := by
  have H := Lib.hid (Gm.pl_err (a := (Gm.bndA m0 m1 m2 m3 m4 m5 (min a c) (min b d) (max a c) (max b d))) (b := (Gm.bndB m0 m1 m2 m3 m4 m5 (min a c) (min b d) (max a c) (max b d))) (c := (Gm.bndC m0 m1 m2 m3 m4 m5 (min a c) (min b d) (max a c) (max b d))) (d := (Gm.bndD m0 m1 m2 m3 m4 m5 (min a c) (min b d) (max a c) (max b d))) (p := p) (q := q) (r := r) (s := s) (z := (Gm.bndE m0 m1 m2 m3 m4 m5 (min a c) (min b d) (max a c) (max b d))) (e := Gm.bndE m0 m1 m2 m3 m4 m5 (min a c) (min b d) (max a c) (max b d)) (Gm.fst4_0 h0) h0)
  have t0 := ne_yes h0
  clear h0
  go_enter Try.func17, Try.ntmps17
  go_wp2_with fail
  refine (Bounds_any m0 m1 m2 m3 m4 m5 a b c d _).mono ?_
  rintro e w1 ⟨rfl, k1⟩
  have HR := Lib.hid ((Blk.fresh' (b := w.heap.size + 1 + 1 + 1) _ _ (by simp)).kept k1)
  have HP := Lib.hid (((Blk.fresh' (b := w.heap.size + 1 + 1) _ _ (by simp)).alloc _).kept k1)
  obtain ⟨r0, r1, r2, r3, r4, r5⟩ := HR.out.cells6
  have rf := HR.out.free
  have rz := HR.out.lt
  obtain ⟨p0, p1, p2, p3⟩ := HP.out.cells4
  have pz := HP.out.lt
  have HK := Lib.hid ((((((Kept.refl w).alloc _ _).alloc _ _).alloc _ _).alloc _ _).trans k1)
  clear k1
  go_wp2_with fail
  refine bodyPost_ret (v := .tuple #[.agg #[.int .i64 0, .int .i64 0, .int .i64 0, .int .i64 0, .int .i64 0, .int .i64 0], .int .i64 (Gm.bndE m0 m1 m2 m3 m4 m5 (min a c) (min b d) (max a c) (max b d))]) ?_ rfl ⟨?_, ?_⟩
  · simp [results, Try.results17, go_sem, r0, r1, r2, r3, r4, r5, rz]
  · obtain ⟨q0, q1, q2, q3, q4⟩ := H.out
    rw [q0, q1, q2, q3, q4]
  · exact (HK.out.set6 (by omega) _ _ _ _ _ _).allocO _

set_option maxHeartbeats 4000000 in
theorem Place_1 (a b c d m0 m1 m2 m3 m4 m5 p q r s : Int) (w : World) (h0 : Gm.bndE m0 m1 m2 m3 m4 m5 (min a c) (min b d) (max a c) (max b d) = 0) (h1 : ¬ Gm.scE (Gm.bndA m0 m1 m2 m3 m4 m5 (min a c) (min b d) (max a c) (max b d)) (Gm.bndB m0 m1 m2 m3 m4 m5 (min a c) (min b d) (max a c) (max b d)) (Gm.bndC m0 m1 m2 m3 m4 m5 (min a c) (min b d) (max a c) (max b d)) (Gm.bndD m0 m1 m2 m3 m4 m5 (min a c) (min b d) (max a c) (max b d)) (min p r) (min q s) (max p r) (max q s) = 0) :
    Calls Try.prog 17 #[.agg #[.int .i64 a, .int .i64 b, .int .i64 c, .int .i64 d], .agg #[.int .i64 m0, .int .i64 m1, .int .i64 m2, .int .i64 m3, .int .i64 m4, .int .i64 m5], .agg #[.int .i64 p, .int .i64 q, .int .i64 r, .int .i64 s]] w fun e w' => e = .returned (.tuple #[.agg #[.int .i64 (Gm.plX (Gm.bndE m0 m1 m2 m3 m4 m5 (min a c) (min b d) (max a c) (max b d)) (Gm.bndA m0 m1 m2 m3 m4 m5 (min a c) (min b d) (max a c) (max b d)) (Gm.bndB m0 m1 m2 m3 m4 m5 (min a c) (min b d) (max a c) (max b d)) (Gm.bndC m0 m1 m2 m3 m4 m5 (min a c) (min b d) (max a c) (max b d)) (Gm.bndD m0 m1 m2 m3 m4 m5 (min a c) (min b d) (max a c) (max b d)) p q r s), .int .i64 0, .int .i64 0, .int .i64 (Gm.plY (Gm.bndE m0 m1 m2 m3 m4 m5 (min a c) (min b d) (max a c) (max b d)) (Gm.bndA m0 m1 m2 m3 m4 m5 (min a c) (min b d) (max a c) (max b d)) (Gm.bndB m0 m1 m2 m3 m4 m5 (min a c) (min b d) (max a c) (max b d)) (Gm.bndC m0 m1 m2 m3 m4 m5 (min a c) (min b d) (max a c) (max b d)) (Gm.bndD m0 m1 m2 m3 m4 m5 (min a c) (min b d) (max a c) (max b d)) p q r s), .int .i64 (Gm.plS (Gm.bndE m0 m1 m2 m3 m4 m5 (min a c) (min b d) (max a c) (max b d)) (Gm.bndA m0 m1 m2 m3 m4 m5 (min a c) (min b d) (max a c) (max b d)) (Gm.bndB m0 m1 m2 m3 m4 m5 (min a c) (min b d) (max a c) (max b d)) (Gm.bndC m0 m1 m2 m3 m4 m5 (min a c) (min b d) (max a c) (max b d)) (Gm.bndD m0 m1 m2 m3 m4 m5 (min a c) (min b d) (max a c) (max b d)) p q r s), .int .i64 (Gm.plT (Gm.bndE m0 m1 m2 m3 m4 m5 (min a c) (min b d) (max a c) (max b d)) (Gm.bndA m0 m1 m2 m3 m4 m5 (min a c) (min b d) (max a c) (max b d)) (Gm.bndB m0 m1 m2 m3 m4 m5 (min a c) (min b d) (max a c) (max b d)) (Gm.bndC m0 m1 m2 m3 m4 m5 (min a c) (min b d) (max a c) (max b d)) (Gm.bndD m0 m1 m2 m3 m4 m5 (min a c) (min b d) (max a c) (max b d)) p q r s)], .int .i64 (Gm.plE (Gm.bndE m0 m1 m2 m3 m4 m5 (min a c) (min b d) (max a c) (max b d)) (Gm.bndA m0 m1 m2 m3 m4 m5 (min a c) (min b d) (max a c) (max b d)) (Gm.bndB m0 m1 m2 m3 m4 m5 (min a c) (min b d) (max a c) (max b d)) (Gm.bndC m0 m1 m2 m3 m4 m5 (min a c) (min b d) (max a c) (max b d)) (Gm.bndD m0 m1 m2 m3 m4 m5 (min a c) (min b d) (max a c) (max b d)) p q r s)]) ∧ Kept w w' := by
  have H := Lib.hid (Gm.pl_err (a := (Gm.bndA m0 m1 m2 m3 m4 m5 (min a c) (min b d) (max a c) (max b d))) (b := (Gm.bndB m0 m1 m2 m3 m4 m5 (min a c) (min b d) (max a c) (max b d))) (c := (Gm.bndC m0 m1 m2 m3 m4 m5 (min a c) (min b d) (max a c) (max b d))) (d := (Gm.bndD m0 m1 m2 m3 m4 m5 (min a c) (min b d) (max a c) (max b d))) (p := p) (q := q) (r := r) (s := s) (z := (Gm.bndE m0 m1 m2 m3 m4 m5 (min a c) (min b d) (max a c) (max b d))) (e := Gm.scE (Gm.bndA m0 m1 m2 m3 m4 m5 (min a c) (min b d) (max a c) (max b d)) (Gm.bndB m0 m1 m2 m3 m4 m5 (min a c) (min b d) (max a c) (max b d)) (Gm.bndC m0 m1 m2 m3 m4 m5 (min a c) (min b d) (max a c) (max b d)) (Gm.bndD m0 m1 m2 m3 m4 m5 (min a c) (min b d) (max a c) (max b d)) (min p r) (min q s) (max p r) (max q s)) (Gm.fst4_1 h0 h1) h1)
  have t0 := ne_no h0
  have t1 := ne_yes h1
  clear h0 h1
  go_enter Try.func17, Try.ntmps17
  go_wp2_with fail
  refine (Bounds_any m0 m1 m2 m3 m4 m5 a b c d _).mono ?_
  rintro e w1 ⟨rfl, k1⟩
  have HR := Lib.hid ((Blk.fresh' (b := w.heap.size + 1 + 1 + 1) _ _ (by simp)).kept k1)
  have HP := Lib.hid (((Blk.fresh' (b := w.heap.size + 1 + 1) _ _ (by simp)).alloc _).kept k1)
  obtain ⟨r0, r1, r2, r3, r4, r5⟩ := HR.out.cells6
  have rf := HR.out.free
  have rz := HR.out.lt
  obtain ⟨p0, p1, p2, p3⟩ := HP.out.cells4
  have pz := HP.out.lt
  have HK := Lib.hid ((((((Kept.refl w).alloc _ _).alloc _ _).alloc _ _).alloc _ _).trans k1)
  clear k1
  go_wp2_with fail
  refine (Norm_any p q r s _).mono ?_
  rintro e w2 ⟨rfl, k2⟩
  have HR2 := Lib.hid ((HR.out.alloc _).kept k2)
  have HT2 := Lib.hid ((Blk.fresh w1 _ _).kept k2)
  have HK2 := Lib.hid ((HK.out.allocO _).trans k2)
  clear k2 r0 r1 r2 r3 r4 r5 rf rz p0 p1 p2 p3 pz
  obtain ⟨a0, a1, a2, a3⟩ := HT2.out.cells4
  have az := HT2.out.lt
  go_wp2_with fail
  refine (scales_any (Gm.bndA m0 m1 m2 m3 m4 m5 (min a c) (min b d) (max a c) (max b d)) (Gm.bndB m0 m1 m2 m3 m4 m5 (min a c) (min b d) (max a c) (max b d)) (Gm.bndC m0 m1 m2 m3 m4 m5 (min a c) (min b d) (max a c) (max b d)) (Gm.bndD m0 m1 m2 m3 m4 m5 (min a c) (min b d) (max a c) (max b d)) (min p r) (min q s) (max p r) (max q s) _).mono ?_
  rintro e w3 ⟨rfl, k3⟩
  have HR3 := Lib.hid ((HR2.out.alloc _).kept k3)
  have HT3 := Lib.hid ((HT2.out.alloc _).kept k3)
  have HU3 := Lib.hid ((Blk.fresh w2 _ _).kept k3)
  have HK3 := Lib.hid ((HK2.out.allocO _).trans k3)
  clear k3 a0 a1 a2 a3 az
  obtain ⟨r0, r1, r2, r3, r4, r5⟩ := HR3.out.cells6
  have rf := HR3.out.free
  obtain ⟨a0, a1, a2, a3⟩ := HT3.out.cells4
  obtain ⟨b0, b1, b2, b3⟩ := HU3.out.cells4
  go_wp2_with fail
  refine bodyPost_ret (v := .tuple #[.agg #[.int .i64 0, .int .i64 0, .int .i64 0, .int .i64 0, .int .i64 0, .int .i64 0], .int .i64 (Gm.scE (Gm.bndA m0 m1 m2 m3 m4 m5 (min a c) (min b d) (max a c) (max b d)) (Gm.bndB m0 m1 m2 m3 m4 m5 (min a c) (min b d) (max a c) (max b d)) (Gm.bndC m0 m1 m2 m3 m4 m5 (min a c) (min b d) (max a c) (max b d)) (Gm.bndD m0 m1 m2 m3 m4 m5 (min a c) (min b d) (max a c) (max b d)) (min p r) (min q s) (max p r) (max q s))]) ?_ rfl ⟨?_, ?_⟩
  · simp [results, Try.results17, go_sem, r0, r1, r2, r3, r4, r5]
  · obtain ⟨q0, q1, q2, q3, q4⟩ := H.out
    rw [q0, q1, q2, q3, q4]
  · exact (HK3.out).set6 (by omega) _ _ _ _ _ _

set_option maxHeartbeats 4000000 in
theorem Place_2 (a b c d m0 m1 m2 m3 m4 m5 p q r s : Int) (w : World) (h0 : Gm.bndE m0 m1 m2 m3 m4 m5 (min a c) (min b d) (max a c) (max b d) = 0) (h1 : Gm.scE (Gm.bndA m0 m1 m2 m3 m4 m5 (min a c) (min b d) (max a c) (max b d)) (Gm.bndB m0 m1 m2 m3 m4 m5 (min a c) (min b d) (max a c) (max b d)) (Gm.bndC m0 m1 m2 m3 m4 m5 (min a c) (min b d) (max a c) (max b d)) (Gm.bndD m0 m1 m2 m3 m4 m5 (min a c) (min b d) (max a c) (max b d)) (min p r) (min q s) (max p r) (max q s) = 0) (h2 : ¬ Gm.shiE (min p r) (Gm.bndA m0 m1 m2 m3 m4 m5 (min a c) (min b d) (max a c) (max b d)) (Gm.scX (Gm.bndA m0 m1 m2 m3 m4 m5 (min a c) (min b d) (max a c) (max b d)) (Gm.bndB m0 m1 m2 m3 m4 m5 (min a c) (min b d) (max a c) (max b d)) (Gm.bndC m0 m1 m2 m3 m4 m5 (min a c) (min b d) (max a c) (max b d)) (Gm.bndD m0 m1 m2 m3 m4 m5 (min a c) (min b d) (max a c) (max b d)) (min p r) (min q s) (max p r) (max q s)) = 0) :
    Calls Try.prog 17 #[.agg #[.int .i64 a, .int .i64 b, .int .i64 c, .int .i64 d], .agg #[.int .i64 m0, .int .i64 m1, .int .i64 m2, .int .i64 m3, .int .i64 m4, .int .i64 m5], .agg #[.int .i64 p, .int .i64 q, .int .i64 r, .int .i64 s]] w fun e w' => e = .returned (.tuple #[.agg #[.int .i64 (Gm.plX (Gm.bndE m0 m1 m2 m3 m4 m5 (min a c) (min b d) (max a c) (max b d)) (Gm.bndA m0 m1 m2 m3 m4 m5 (min a c) (min b d) (max a c) (max b d)) (Gm.bndB m0 m1 m2 m3 m4 m5 (min a c) (min b d) (max a c) (max b d)) (Gm.bndC m0 m1 m2 m3 m4 m5 (min a c) (min b d) (max a c) (max b d)) (Gm.bndD m0 m1 m2 m3 m4 m5 (min a c) (min b d) (max a c) (max b d)) p q r s), .int .i64 0, .int .i64 0, .int .i64 (Gm.plY (Gm.bndE m0 m1 m2 m3 m4 m5 (min a c) (min b d) (max a c) (max b d)) (Gm.bndA m0 m1 m2 m3 m4 m5 (min a c) (min b d) (max a c) (max b d)) (Gm.bndB m0 m1 m2 m3 m4 m5 (min a c) (min b d) (max a c) (max b d)) (Gm.bndC m0 m1 m2 m3 m4 m5 (min a c) (min b d) (max a c) (max b d)) (Gm.bndD m0 m1 m2 m3 m4 m5 (min a c) (min b d) (max a c) (max b d)) p q r s), .int .i64 (Gm.plS (Gm.bndE m0 m1 m2 m3 m4 m5 (min a c) (min b d) (max a c) (max b d)) (Gm.bndA m0 m1 m2 m3 m4 m5 (min a c) (min b d) (max a c) (max b d)) (Gm.bndB m0 m1 m2 m3 m4 m5 (min a c) (min b d) (max a c) (max b d)) (Gm.bndC m0 m1 m2 m3 m4 m5 (min a c) (min b d) (max a c) (max b d)) (Gm.bndD m0 m1 m2 m3 m4 m5 (min a c) (min b d) (max a c) (max b d)) p q r s), .int .i64 (Gm.plT (Gm.bndE m0 m1 m2 m3 m4 m5 (min a c) (min b d) (max a c) (max b d)) (Gm.bndA m0 m1 m2 m3 m4 m5 (min a c) (min b d) (max a c) (max b d)) (Gm.bndB m0 m1 m2 m3 m4 m5 (min a c) (min b d) (max a c) (max b d)) (Gm.bndC m0 m1 m2 m3 m4 m5 (min a c) (min b d) (max a c) (max b d)) (Gm.bndD m0 m1 m2 m3 m4 m5 (min a c) (min b d) (max a c) (max b d)) p q r s)], .int .i64 (Gm.plE (Gm.bndE m0 m1 m2 m3 m4 m5 (min a c) (min b d) (max a c) (max b d)) (Gm.bndA m0 m1 m2 m3 m4 m5 (min a c) (min b d) (max a c) (max b d)) (Gm.bndB m0 m1 m2 m3 m4 m5 (min a c) (min b d) (max a c) (max b d)) (Gm.bndC m0 m1 m2 m3 m4 m5 (min a c) (min b d) (max a c) (max b d)) (Gm.bndD m0 m1 m2 m3 m4 m5 (min a c) (min b d) (max a c) (max b d)) p q r s)]) ∧ Kept w w' := by
  have H := Lib.hid (Gm.pl_err (a := (Gm.bndA m0 m1 m2 m3 m4 m5 (min a c) (min b d) (max a c) (max b d))) (b := (Gm.bndB m0 m1 m2 m3 m4 m5 (min a c) (min b d) (max a c) (max b d))) (c := (Gm.bndC m0 m1 m2 m3 m4 m5 (min a c) (min b d) (max a c) (max b d))) (d := (Gm.bndD m0 m1 m2 m3 m4 m5 (min a c) (min b d) (max a c) (max b d))) (p := p) (q := q) (r := r) (s := s) (z := (Gm.bndE m0 m1 m2 m3 m4 m5 (min a c) (min b d) (max a c) (max b d))) (e := Gm.shiE (min p r) (Gm.bndA m0 m1 m2 m3 m4 m5 (min a c) (min b d) (max a c) (max b d)) (Gm.scX (Gm.bndA m0 m1 m2 m3 m4 m5 (min a c) (min b d) (max a c) (max b d)) (Gm.bndB m0 m1 m2 m3 m4 m5 (min a c) (min b d) (max a c) (max b d)) (Gm.bndC m0 m1 m2 m3 m4 m5 (min a c) (min b d) (max a c) (max b d)) (Gm.bndD m0 m1 m2 m3 m4 m5 (min a c) (min b d) (max a c) (max b d)) (min p r) (min q s) (max p r) (max q s))) (Gm.fst4_2 h0 h1 h2) h2)
  have t0 := ne_no h0
  have t1 := ne_no h1
  have t2 := ne_yes h2
  clear h0 h1 h2
  go_enter Try.func17, Try.ntmps17
  go_wp2_with fail
  refine (Bounds_any m0 m1 m2 m3 m4 m5 a b c d _).mono ?_
  rintro e w1 ⟨rfl, k1⟩
  have HR := Lib.hid ((Blk.fresh' (b := w.heap.size + 1 + 1 + 1) _ _ (by simp)).kept k1)
  have HP := Lib.hid (((Blk.fresh' (b := w.heap.size + 1 + 1) _ _ (by simp)).alloc _).kept k1)
  obtain ⟨r0, r1, r2, r3, r4, r5⟩ := HR.out.cells6
  have rf := HR.out.free
  have rz := HR.out.lt
  obtain ⟨p0, p1, p2, p3⟩ := HP.out.cells4
  have pz := HP.out.lt
  have HK := Lib.hid ((((((Kept.refl w).alloc _ _).alloc _ _).alloc _ _).alloc _ _).trans k1)
  clear k1
  go_wp2_with fail
  refine (Norm_any p q r s _).mono ?_
  rintro e w2 ⟨rfl, k2⟩
  have HR2 := Lib.hid ((HR.out.alloc _).kept k2)
  have HT2 := Lib.hid ((Blk.fresh w1 _ _).kept k2)
  have HK2 := Lib.hid ((HK.out.allocO _).trans k2)
  clear k2 r0 r1 r2 r3 r4 r5 rf rz p0 p1 p2 p3 pz
  obtain ⟨a0, a1, a2, a3⟩ := HT2.out.cells4
  have az := HT2.out.lt
  go_wp2_with fail
  refine (scales_any (Gm.bndA m0 m1 m2 m3 m4 m5 (min a c) (min b d) (max a c) (max b d)) (Gm.bndB m0 m1 m2 m3 m4 m5 (min a c) (min b d) (max a c) (max b d)) (Gm.bndC m0 m1 m2 m3 m4 m5 (min a c) (min b d) (max a c) (max b d)) (Gm.bndD m0 m1 m2 m3 m4 m5 (min a c) (min b d) (max a c) (max b d)) (min p r) (min q s) (max p r) (max q s) _).mono ?_
  rintro e w3 ⟨rfl, k3⟩
  have HR3 := Lib.hid ((HR2.out.alloc _).kept k3)
  have HT3 := Lib.hid ((HT2.out.alloc _).kept k3)
  have HU3 := Lib.hid ((Blk.fresh w2 _ _).kept k3)
  have HK3 := Lib.hid ((HK2.out.allocO _).trans k3)
  clear k3 a0 a1 a2 a3 az
  obtain ⟨r0, r1, r2, r3, r4, r5⟩ := HR3.out.cells6
  have rf := HR3.out.free
  obtain ⟨a0, a1, a2, a3⟩ := HT3.out.cells4
  obtain ⟨b0, b1, b2, b3⟩ := HU3.out.cells4
  go_wp2_with fail
  refine (shift_any _ _ _ _).mono ?_
  rintro e w4 ⟨rfl, k4⟩
  have HR4 := Lib.hid (HR3.out.kept k4)
  have HT4 := Lib.hid (HT3.out.kept k4)
  have HU4 := Lib.hid (HU3.out.kept k4)
  have HK4 := Lib.hid (HK3.out.trans k4)
  clear k4 a0 a1 a2 a3 b0 b1 b2 b3 r0 r1 r2 r3 r4 r5 rf
  obtain ⟨r0, r1, r2, r3, r4, r5⟩ := HR4.out.cells6
  have rf := HR4.out.free
  obtain ⟨a0, a1, a2, a3⟩ := HT4.out.cells4
  obtain ⟨b0, b1, b2, b3⟩ := HU4.out.cells4
  go_wp2_with fail
  refine bodyPost_ret (v := .tuple #[.agg #[.int .i64 0, .int .i64 0, .int .i64 0, .int .i64 0, .int .i64 0, .int .i64 0], .int .i64 (Gm.shiE (min p r) (Gm.bndA m0 m1 m2 m3 m4 m5 (min a c) (min b d) (max a c) (max b d)) (Gm.scX (Gm.bndA m0 m1 m2 m3 m4 m5 (min a c) (min b d) (max a c) (max b d)) (Gm.bndB m0 m1 m2 m3 m4 m5 (min a c) (min b d) (max a c) (max b d)) (Gm.bndC m0 m1 m2 m3 m4 m5 (min a c) (min b d) (max a c) (max b d)) (Gm.bndD m0 m1 m2 m3 m4 m5 (min a c) (min b d) (max a c) (max b d)) (min p r) (min q s) (max p r) (max q s)))]) ?_ rfl ⟨?_, ?_⟩
  · simp [results, Try.results17, go_sem, r0, r1, r2, r3, r4, r5]
  · obtain ⟨q0, q1, q2, q3, q4⟩ := H.out
    rw [q0, q1, q2, q3, q4]
  · exact (HK4.out).set6 (by omega) _ _ _ _ _ _

set_option maxHeartbeats 4000000 in
theorem Place_3 (a b c d m0 m1 m2 m3 m4 m5 p q r s : Int) (w : World) (h0 : Gm.bndE m0 m1 m2 m3 m4 m5 (min a c) (min b d) (max a c) (max b d) = 0) (h1 : Gm.scE (Gm.bndA m0 m1 m2 m3 m4 m5 (min a c) (min b d) (max a c) (max b d)) (Gm.bndB m0 m1 m2 m3 m4 m5 (min a c) (min b d) (max a c) (max b d)) (Gm.bndC m0 m1 m2 m3 m4 m5 (min a c) (min b d) (max a c) (max b d)) (Gm.bndD m0 m1 m2 m3 m4 m5 (min a c) (min b d) (max a c) (max b d)) (min p r) (min q s) (max p r) (max q s) = 0) (h2 : Gm.shiE (min p r) (Gm.bndA m0 m1 m2 m3 m4 m5 (min a c) (min b d) (max a c) (max b d)) (Gm.scX (Gm.bndA m0 m1 m2 m3 m4 m5 (min a c) (min b d) (max a c) (max b d)) (Gm.bndB m0 m1 m2 m3 m4 m5 (min a c) (min b d) (max a c) (max b d)) (Gm.bndC m0 m1 m2 m3 m4 m5 (min a c) (min b d) (max a c) (max b d)) (Gm.bndD m0 m1 m2 m3 m4 m5 (min a c) (min b d) (max a c) (max b d)) (min p r) (min q s) (max p r) (max q s)) = 0) (h3 : ¬ Gm.shiE (min q s) (Gm.bndB m0 m1 m2 m3 m4 m5 (min a c) (min b d) (max a c) (max b d)) (Gm.scY (Gm.bndA m0 m1 m2 m3 m4 m5 (min a c) (min b d) (max a c) (max b d)) (Gm.bndB m0 m1 m2 m3 m4 m5 (min a c) (min b d) (max a c) (max b d)) (Gm.bndC m0 m1 m2 m3 m4 m5 (min a c) (min b d) (max a c) (max b d)) (Gm.bndD m0 m1 m2 m3 m4 m5 (min a c) (min b d) (max a c) (max b d)) (min p r) (min q s) (max p r) (max q s)) = 0) :
    Calls Try.prog 17 #[.agg #[.int .i64 a, .int .i64 b, .int .i64 c, .int .i64 d], .agg #[.int .i64 m0, .int .i64 m1, .int .i64 m2, .int .i64 m3, .int .i64 m4, .int .i64 m5], .agg #[.int .i64 p, .int .i64 q, .int .i64 r, .int .i64 s]] w fun e w' => e = .returned (.tuple #[.agg #[.int .i64 (Gm.plX (Gm.bndE m0 m1 m2 m3 m4 m5 (min a c) (min b d) (max a c) (max b d)) (Gm.bndA m0 m1 m2 m3 m4 m5 (min a c) (min b d) (max a c) (max b d)) (Gm.bndB m0 m1 m2 m3 m4 m5 (min a c) (min b d) (max a c) (max b d)) (Gm.bndC m0 m1 m2 m3 m4 m5 (min a c) (min b d) (max a c) (max b d)) (Gm.bndD m0 m1 m2 m3 m4 m5 (min a c) (min b d) (max a c) (max b d)) p q r s), .int .i64 0, .int .i64 0, .int .i64 (Gm.plY (Gm.bndE m0 m1 m2 m3 m4 m5 (min a c) (min b d) (max a c) (max b d)) (Gm.bndA m0 m1 m2 m3 m4 m5 (min a c) (min b d) (max a c) (max b d)) (Gm.bndB m0 m1 m2 m3 m4 m5 (min a c) (min b d) (max a c) (max b d)) (Gm.bndC m0 m1 m2 m3 m4 m5 (min a c) (min b d) (max a c) (max b d)) (Gm.bndD m0 m1 m2 m3 m4 m5 (min a c) (min b d) (max a c) (max b d)) p q r s), .int .i64 (Gm.plS (Gm.bndE m0 m1 m2 m3 m4 m5 (min a c) (min b d) (max a c) (max b d)) (Gm.bndA m0 m1 m2 m3 m4 m5 (min a c) (min b d) (max a c) (max b d)) (Gm.bndB m0 m1 m2 m3 m4 m5 (min a c) (min b d) (max a c) (max b d)) (Gm.bndC m0 m1 m2 m3 m4 m5 (min a c) (min b d) (max a c) (max b d)) (Gm.bndD m0 m1 m2 m3 m4 m5 (min a c) (min b d) (max a c) (max b d)) p q r s), .int .i64 (Gm.plT (Gm.bndE m0 m1 m2 m3 m4 m5 (min a c) (min b d) (max a c) (max b d)) (Gm.bndA m0 m1 m2 m3 m4 m5 (min a c) (min b d) (max a c) (max b d)) (Gm.bndB m0 m1 m2 m3 m4 m5 (min a c) (min b d) (max a c) (max b d)) (Gm.bndC m0 m1 m2 m3 m4 m5 (min a c) (min b d) (max a c) (max b d)) (Gm.bndD m0 m1 m2 m3 m4 m5 (min a c) (min b d) (max a c) (max b d)) p q r s)], .int .i64 (Gm.plE (Gm.bndE m0 m1 m2 m3 m4 m5 (min a c) (min b d) (max a c) (max b d)) (Gm.bndA m0 m1 m2 m3 m4 m5 (min a c) (min b d) (max a c) (max b d)) (Gm.bndB m0 m1 m2 m3 m4 m5 (min a c) (min b d) (max a c) (max b d)) (Gm.bndC m0 m1 m2 m3 m4 m5 (min a c) (min b d) (max a c) (max b d)) (Gm.bndD m0 m1 m2 m3 m4 m5 (min a c) (min b d) (max a c) (max b d)) p q r s)]) ∧ Kept w w' := by
  have H := Lib.hid (Gm.pl_err (a := (Gm.bndA m0 m1 m2 m3 m4 m5 (min a c) (min b d) (max a c) (max b d))) (b := (Gm.bndB m0 m1 m2 m3 m4 m5 (min a c) (min b d) (max a c) (max b d))) (c := (Gm.bndC m0 m1 m2 m3 m4 m5 (min a c) (min b d) (max a c) (max b d))) (d := (Gm.bndD m0 m1 m2 m3 m4 m5 (min a c) (min b d) (max a c) (max b d))) (p := p) (q := q) (r := r) (s := s) (z := (Gm.bndE m0 m1 m2 m3 m4 m5 (min a c) (min b d) (max a c) (max b d))) (e := Gm.shiE (min q s) (Gm.bndB m0 m1 m2 m3 m4 m5 (min a c) (min b d) (max a c) (max b d)) (Gm.scY (Gm.bndA m0 m1 m2 m3 m4 m5 (min a c) (min b d) (max a c) (max b d)) (Gm.bndB m0 m1 m2 m3 m4 m5 (min a c) (min b d) (max a c) (max b d)) (Gm.bndC m0 m1 m2 m3 m4 m5 (min a c) (min b d) (max a c) (max b d)) (Gm.bndD m0 m1 m2 m3 m4 m5 (min a c) (min b d) (max a c) (max b d)) (min p r) (min q s) (max p r) (max q s))) (Gm.fst4_3 h0 h1 h2) h3)
  have t0 := ne_no h0
  have t1 := ne_no h1
  have t2 := ne_no h2
  have t3 := ne_yes h3
  clear h0 h1 h2 h3
  go_enter Try.func17, Try.ntmps17
  go_wp2_with fail
  refine (Bounds_any m0 m1 m2 m3 m4 m5 a b c d _).mono ?_
  rintro e w1 ⟨rfl, k1⟩
  have HR := Lib.hid ((Blk.fresh' (b := w.heap.size + 1 + 1 + 1) _ _ (by simp)).kept k1)
  have HP := Lib.hid (((Blk.fresh' (b := w.heap.size + 1 + 1) _ _ (by simp)).alloc _).kept k1)
  obtain ⟨r0, r1, r2, r3, r4, r5⟩ := HR.out.cells6
  have rf := HR.out.free
  have rz := HR.out.lt
  obtain ⟨p0, p1, p2, p3⟩ := HP.out.cells4
  have pz := HP.out.lt
  have HK := Lib.hid ((((((Kept.refl w).alloc _ _).alloc _ _).alloc _ _).alloc _ _).trans k1)
  clear k1
  go_wp2_with fail
  refine (Norm_any p q r s _).mono ?_
  rintro e w2 ⟨rfl, k2⟩
  have HR2 := Lib.hid ((HR.out.alloc _).kept k2)
  have HT2 := Lib.hid ((Blk.fresh w1 _ _).kept k2)
  have HK2 := Lib.hid ((HK.out.allocO _).trans k2)
  clear k2 r0 r1 r2 r3 r4 r5 rf rz p0 p1 p2 p3 pz
  obtain ⟨a0, a1, a2, a3⟩ := HT2.out.cells4
  have az := HT2.out.lt
  go_wp2_with fail
  refine (scales_any (Gm.bndA m0 m1 m2 m3 m4 m5 (min a c) (min b d) (max a c) (max b d)) (Gm.bndB m0 m1 m2 m3 m4 m5 (min a c) (min b d) (max a c) (max b d)) (Gm.bndC m0 m1 m2 m3 m4 m5 (min a c) (min b d) (max a c) (max b d)) (Gm.bndD m0 m1 m2 m3 m4 m5 (min a c) (min b d) (max a c) (max b d)) (min p r) (min q s) (max p r) (max q s) _).mono ?_
  rintro e w3 ⟨rfl, k3⟩
  have HR3 := Lib.hid ((HR2.out.alloc _).kept k3)
  have HT3 := Lib.hid ((HT2.out.alloc _).kept k3)
  have HU3 := Lib.hid ((Blk.fresh w2 _ _).kept k3)
  have HK3 := Lib.hid ((HK2.out.allocO _).trans k3)
  clear k3 a0 a1 a2 a3 az
  obtain ⟨r0, r1, r2, r3, r4, r5⟩ := HR3.out.cells6
  have rf := HR3.out.free
  obtain ⟨a0, a1, a2, a3⟩ := HT3.out.cells4
  obtain ⟨b0, b1, b2, b3⟩ := HU3.out.cells4
  go_wp2_with fail
  refine (shift_any _ _ _ _).mono ?_
  rintro e w4 ⟨rfl, k4⟩
  have HR4 := Lib.hid (HR3.out.kept k4)
  have HT4 := Lib.hid (HT3.out.kept k4)
  have HU4 := Lib.hid (HU3.out.kept k4)
  have HK4 := Lib.hid (HK3.out.trans k4)
  clear k4 a0 a1 a2 a3 b0 b1 b2 b3 r0 r1 r2 r3 r4 r5 rf
  obtain ⟨r0, r1, r2, r3, r4, r5⟩ := HR4.out.cells6
  have rf := HR4.out.free
  obtain ⟨a0, a1, a2, a3⟩ := HT4.out.cells4
  obtain ⟨b0, b1, b2, b3⟩ := HU4.out.cells4
  go_wp2_with fail
  refine (shift_any _ _ _ _).mono ?_
  rintro e w5 ⟨rfl, k5⟩
  have HR5 := Lib.hid (HR4.out.kept k5)
  have HK5 := Lib.hid (HK4.out.trans k5)
  clear k5 a0 a1 a2 a3 b0 b1 b2 b3 r0 r1 r2 r3 r4 r5 rf
  obtain ⟨r0, r1, r2, r3, r4, r5⟩ := HR5.out.cells6
  have rf := HR5.out.free
  go_wp2_with fail
  refine bodyPost_ret (v := .tuple #[.agg #[.int .i64 0, .int .i64 0, .int .i64 0, .int .i64 0, .int .i64 0, .int .i64 0], .int .i64 (Gm.shiE (min q s) (Gm.bndB m0 m1 m2 m3 m4 m5 (min a c) (min b d) (max a c) (max b d)) (Gm.scY (Gm.bndA m0 m1 m2 m3 m4 m5 (min a c) (min b d) (max a c) (max b d)) (Gm.bndB m0 m1 m2 m3 m4 m5 (min a c) (min b d) (max a c) (max b d)) (Gm.bndC m0 m1 m2 m3 m4 m5 (min a c) (min b d) (max a c) (max b d)) (Gm.bndD m0 m1 m2 m3 m4 m5 (min a c) (min b d) (max a c) (max b d)) (min p r) (min q s) (max p r) (max q s)))]) ?_ rfl ⟨?_, ?_⟩
  · simp [results, Try.results17, go_sem, r0, r1, r2, r3, r4, r5]
  · obtain ⟨q0, q1, q2, q3, q4⟩ := H.out
    rw [q0, q1, q2, q3, q4]
  · exact (HK5.out).set6 (by omega) _ _ _ _ _ _

set_option maxHeartbeats 4000000 in
theorem Place_4 (a b c d m0 m1 m2 m3 m4 m5 p q r s : Int) (w : World) (h0 : Gm.bndE m0 m1 m2 m3 m4 m5 (min a c) (min b d) (max a c) (max b d) = 0) (h1 : Gm.scE (Gm.bndA m0 m1 m2 m3 m4 m5 (min a c) (min b d) (max a c) (max b d)) (Gm.bndB m0 m1 m2 m3 m4 m5 (min a c) (min b d) (max a c) (max b d)) (Gm.bndC m0 m1 m2 m3 m4 m5 (min a c) (min b d) (max a c) (max b d)) (Gm.bndD m0 m1 m2 m3 m4 m5 (min a c) (min b d) (max a c) (max b d)) (min p r) (min q s) (max p r) (max q s) = 0) (h2 : Gm.shiE (min p r) (Gm.bndA m0 m1 m2 m3 m4 m5 (min a c) (min b d) (max a c) (max b d)) (Gm.scX (Gm.bndA m0 m1 m2 m3 m4 m5 (min a c) (min b d) (max a c) (max b d)) (Gm.bndB m0 m1 m2 m3 m4 m5 (min a c) (min b d) (max a c) (max b d)) (Gm.bndC m0 m1 m2 m3 m4 m5 (min a c) (min b d) (max a c) (max b d)) (Gm.bndD m0 m1 m2 m3 m4 m5 (min a c) (min b d) (max a c) (max b d)) (min p r) (min q s) (max p r) (max q s)) = 0) (h3 : Gm.shiE (min q s) (Gm.bndB m0 m1 m2 m3 m4 m5 (min a c) (min b d) (max a c) (max b d)) (Gm.scY (Gm.bndA m0 m1 m2 m3 m4 m5 (min a c) (min b d) (max a c) (max b d)) (Gm.bndB m0 m1 m2 m3 m4 m5 (min a c) (min b d) (max a c) (max b d)) (Gm.bndC m0 m1 m2 m3 m4 m5 (min a c) (min b d) (max a c) (max b d)) (Gm.bndD m0 m1 m2 m3 m4 m5 (min a c) (min b d) (max a c) (max b d)) (min p r) (min q s) (max p r) (max q s)) = 0) :
    Calls Try.prog 17 #[.agg #[.int .i64 a, .int .i64 b, .int .i64 c, .int .i64 d], .agg #[.int .i64 m0, .int .i64 m1, .int .i64 m2, .int .i64 m3, .int .i64 m4, .int .i64 m5], .agg #[.int .i64 p, .int .i64 q, .int .i64 r, .int .i64 s]] w fun e w' => e = .returned (.tuple #[.agg #[.int .i64 (Gm.plX (Gm.bndE m0 m1 m2 m3 m4 m5 (min a c) (min b d) (max a c) (max b d)) (Gm.bndA m0 m1 m2 m3 m4 m5 (min a c) (min b d) (max a c) (max b d)) (Gm.bndB m0 m1 m2 m3 m4 m5 (min a c) (min b d) (max a c) (max b d)) (Gm.bndC m0 m1 m2 m3 m4 m5 (min a c) (min b d) (max a c) (max b d)) (Gm.bndD m0 m1 m2 m3 m4 m5 (min a c) (min b d) (max a c) (max b d)) p q r s), .int .i64 0, .int .i64 0, .int .i64 (Gm.plY (Gm.bndE m0 m1 m2 m3 m4 m5 (min a c) (min b d) (max a c) (max b d)) (Gm.bndA m0 m1 m2 m3 m4 m5 (min a c) (min b d) (max a c) (max b d)) (Gm.bndB m0 m1 m2 m3 m4 m5 (min a c) (min b d) (max a c) (max b d)) (Gm.bndC m0 m1 m2 m3 m4 m5 (min a c) (min b d) (max a c) (max b d)) (Gm.bndD m0 m1 m2 m3 m4 m5 (min a c) (min b d) (max a c) (max b d)) p q r s), .int .i64 (Gm.plS (Gm.bndE m0 m1 m2 m3 m4 m5 (min a c) (min b d) (max a c) (max b d)) (Gm.bndA m0 m1 m2 m3 m4 m5 (min a c) (min b d) (max a c) (max b d)) (Gm.bndB m0 m1 m2 m3 m4 m5 (min a c) (min b d) (max a c) (max b d)) (Gm.bndC m0 m1 m2 m3 m4 m5 (min a c) (min b d) (max a c) (max b d)) (Gm.bndD m0 m1 m2 m3 m4 m5 (min a c) (min b d) (max a c) (max b d)) p q r s), .int .i64 (Gm.plT (Gm.bndE m0 m1 m2 m3 m4 m5 (min a c) (min b d) (max a c) (max b d)) (Gm.bndA m0 m1 m2 m3 m4 m5 (min a c) (min b d) (max a c) (max b d)) (Gm.bndB m0 m1 m2 m3 m4 m5 (min a c) (min b d) (max a c) (max b d)) (Gm.bndC m0 m1 m2 m3 m4 m5 (min a c) (min b d) (max a c) (max b d)) (Gm.bndD m0 m1 m2 m3 m4 m5 (min a c) (min b d) (max a c) (max b d)) p q r s)], .int .i64 (Gm.plE (Gm.bndE m0 m1 m2 m3 m4 m5 (min a c) (min b d) (max a c) (max b d)) (Gm.bndA m0 m1 m2 m3 m4 m5 (min a c) (min b d) (max a c) (max b d)) (Gm.bndB m0 m1 m2 m3 m4 m5 (min a c) (min b d) (max a c) (max b d)) (Gm.bndC m0 m1 m2 m3 m4 m5 (min a c) (min b d) (max a c) (max b d)) (Gm.bndD m0 m1 m2 m3 m4 m5 (min a c) (min b d) (max a c) (max b d)) p q r s)]) ∧ Kept w w' := by
  have H := Lib.hid (Gm.pl_ok (a := (Gm.bndA m0 m1 m2 m3 m4 m5 (min a c) (min b d) (max a c) (max b d))) (b := (Gm.bndB m0 m1 m2 m3 m4 m5 (min a c) (min b d) (max a c) (max b d))) (c := (Gm.bndC m0 m1 m2 m3 m4 m5 (min a c) (min b d) (max a c) (max b d))) (d := (Gm.bndD m0 m1 m2 m3 m4 m5 (min a c) (min b d) (max a c) (max b d))) (p := p) (q := q) (r := r) (s := s) (z := (Gm.bndE m0 m1 m2 m3 m4 m5 (min a c) (min b d) (max a c) (max b d))) (show Gm.plE (Gm.bndE m0 m1 m2 m3 m4 m5 (min a c) (min b d) (max a c) (max b d)) (Gm.bndA m0 m1 m2 m3 m4 m5 (min a c) (min b d) (max a c) (max b d)) (Gm.bndB m0 m1 m2 m3 m4 m5 (min a c) (min b d) (max a c) (max b d)) (Gm.bndC m0 m1 m2 m3 m4 m5 (min a c) (min b d) (max a c) (max b d)) (Gm.bndD m0 m1 m2 m3 m4 m5 (min a c) (min b d) (max a c) (max b d)) p q r s = 0 from (Gm.fst4_3 h0 h1 h2).trans h3))
  have t0 := ne_no h0
  have t1 := ne_no h1
  have t2 := ne_no h2
  have t3 := ne_no h3
  clear h0 h1 h2 h3
  go_enter Try.func17, Try.ntmps17
  go_wp2_with fail
  refine (Bounds_any m0 m1 m2 m3 m4 m5 a b c d _).mono ?_
  rintro e w1 ⟨rfl, k1⟩
  have HR := Lib.hid ((Blk.fresh' (b := w.heap.size + 1 + 1 + 1) _ _ (by simp)).kept k1)
  have HP := Lib.hid (((Blk.fresh' (b := w.heap.size + 1 + 1) _ _ (by simp)).alloc _).kept k1)
  obtain ⟨r0, r1, r2, r3, r4, r5⟩ := HR.out.cells6
  have rf := HR.out.free
  have rz := HR.out.lt
  obtain ⟨p0, p1, p2, p3⟩ := HP.out.cells4
  have pz := HP.out.lt
  have HK := Lib.hid ((((((Kept.refl w).alloc _ _).alloc _ _).alloc _ _).alloc _ _).trans k1)
  clear k1
  go_wp2_with fail
  refine (Norm_any p q r s _).mono ?_
  rintro e w2 ⟨rfl, k2⟩
  have HR2 := Lib.hid ((HR.out.alloc _).kept k2)
  have HT2 := Lib.hid ((Blk.fresh w1 _ _).kept k2)
  have HK2 := Lib.hid ((HK.out.allocO _).trans k2)
  clear k2 r0 r1 r2 r3 r4 r5 rf rz p0 p1 p2 p3 pz
  obtain ⟨a0, a1, a2, a3⟩ := HT2.out.cells4
  have az := HT2.out.lt
  go_wp2_with fail
  refine (scales_any (Gm.bndA m0 m1 m2 m3 m4 m5 (min a c) (min b d) (max a c) (max b d)) (Gm.bndB m0 m1 m2 m3 m4 m5 (min a c) (min b d) (max a c) (max b d)) (Gm.bndC m0 m1 m2 m3 m4 m5 (min a c) (min b d) (max a c) (max b d)) (Gm.bndD m0 m1 m2 m3 m4 m5 (min a c) (min b d) (max a c) (max b d)) (min p r) (min q s) (max p r) (max q s) _).mono ?_
  rintro e w3 ⟨rfl, k3⟩
  have HR3 := Lib.hid ((HR2.out.alloc _).kept k3)
  have HT3 := Lib.hid ((HT2.out.alloc _).kept k3)
  have HU3 := Lib.hid ((Blk.fresh w2 _ _).kept k3)
  have HK3 := Lib.hid ((HK2.out.allocO _).trans k3)
  clear k3 a0 a1 a2 a3 az
  obtain ⟨r0, r1, r2, r3, r4, r5⟩ := HR3.out.cells6
  have rf := HR3.out.free
  obtain ⟨a0, a1, a2, a3⟩ := HT3.out.cells4
  obtain ⟨b0, b1, b2, b3⟩ := HU3.out.cells4
  go_wp2_with fail
  refine (shift_any _ _ _ _).mono ?_
  rintro e w4 ⟨rfl, k4⟩
  have HR4 := Lib.hid (HR3.out.kept k4)
  have HT4 := Lib.hid (HT3.out.kept k4)
  have HU4 := Lib.hid (HU3.out.kept k4)
  have HK4 := Lib.hid (HK3.out.trans k4)
  clear k4 a0 a1 a2 a3 b0 b1 b2 b3 r0 r1 r2 r3 r4 r5 rf
  obtain ⟨r0, r1, r2, r3, r4, r5⟩ := HR4.out.cells6
  have rf := HR4.out.free
  obtain ⟨a0, a1, a2, a3⟩ := HT4.out.cells4
  obtain ⟨b0, b1, b2, b3⟩ := HU4.out.cells4
  go_wp2_with fail
  refine (shift_any _ _ _ _).mono ?_
  rintro e w5 ⟨rfl, k5⟩
  have HR5 := Lib.hid (HR4.out.kept k5)
  have HK5 := Lib.hid (HK4.out.trans k5)
  clear k5 a0 a1 a2 a3 b0 b1 b2 b3 r0 r1 r2 r3 r4 r5 rf
  obtain ⟨r0, r1, r2, r3, r4, r5⟩ := HR5.out.cells6
  have rf := HR5.out.free
  go_wp2_with fail
  refine bodyPost_ret (v := .tuple #[.agg #[.int .i64 (Gm.scX (Gm.bndA m0 m1 m2 m3 m4 m5 (min a c) (min b d) (max a c) (max b d)) (Gm.bndB m0 m1 m2 m3 m4 m5 (min a c) (min b d) (max a c) (max b d)) (Gm.bndC m0 m1 m2 m3 m4 m5 (min a c) (min b d) (max a c) (max b d)) (Gm.bndD m0 m1 m2 m3 m4 m5 (min a c) (min b d) (max a c) (max b d)) (min p r) (min q s) (max p r) (max q s)), .int .i64 0, .int .i64 0, .int .i64 (Gm.scY (Gm.bndA m0 m1 m2 m3 m4 m5 (min a c) (min b d) (max a c) (max b d)) (Gm.bndB m0 m1 m2 m3 m4 m5 (min a c) (min b d) (max a c) (max b d)) (Gm.bndC m0 m1 m2 m3 m4 m5 (min a c) (min b d) (max a c) (max b d)) (Gm.bndD m0 m1 m2 m3 m4 m5 (min a c) (min b d) (max a c) (max b d)) (min p r) (min q s) (max p r) (max q s)), .int .i64 (Gm.shiV (min p r) (Gm.bndA m0 m1 m2 m3 m4 m5 (min a c) (min b d) (max a c) (max b d)) (Gm.scX (Gm.bndA m0 m1 m2 m3 m4 m5 (min a c) (min b d) (max a c) (max b d)) (Gm.bndB m0 m1 m2 m3 m4 m5 (min a c) (min b d) (max a c) (max b d)) (Gm.bndC m0 m1 m2 m3 m4 m5 (min a c) (min b d) (max a c) (max b d)) (Gm.bndD m0 m1 m2 m3 m4 m5 (min a c) (min b d) (max a c) (max b d)) (min p r) (min q s) (max p r) (max q s))), .int .i64 (Gm.shiV (min q s) (Gm.bndB m0 m1 m2 m3 m4 m5 (min a c) (min b d) (max a c) (max b d)) (Gm.scY (Gm.bndA m0 m1 m2 m3 m4 m5 (min a c) (min b d) (max a c) (max b d)) (Gm.bndB m0 m1 m2 m3 m4 m5 (min a c) (min b d) (max a c) (max b d)) (Gm.bndC m0 m1 m2 m3 m4 m5 (min a c) (min b d) (max a c) (max b d)) (Gm.bndD m0 m1 m2 m3 m4 m5 (min a c) (min b d) (max a c) (max b d)) (min p r) (min q s) (max p r) (max q s)))], .int .i64 0]) ?_ rfl ⟨?_, ?_⟩
  · simp [results, Try.results17, go_sem, r0, r1, r2, r3, r4, r5]
  · obtain ⟨q0, q1, q2, q3, q4⟩ := H.out
    rw [q0, q1, q2, q3, q4]
  · exact (HK5.out).set6 (by omega) _ _ _ _ _ _

theorem Place_any (a b c d m0 m1 m2 m3 m4 m5 p q r s : Int) (w : World) :
    Calls Try.prog 17 #[.agg #[.int .i64 a, .int .i64 b, .int .i64 c, .int .i64 d], .agg #[.int .i64 m0, .int .i64 m1, .int .i64 m2, .int .i64 m3, .int .i64 m4, .int .i64 m5], .agg #[.int .i64 p, .int .i64 q, .int .i64 r, .int .i64 s]] w fun e w' => e = .returned (.tuple #[.agg #[.int .i64 (Gm.plX (Gm.bndE m0 m1 m2 m3 m4 m5 (min a c) (min b d) (max a c) (max b d)) (Gm.bndA m0 m1 m2 m3 m4 m5 (min a c) (min b d) (max a c) (max b d)) (Gm.bndB m0 m1 m2 m3 m4 m5 (min a c) (min b d) (max a c) (max b d)) (Gm.bndC m0 m1 m2 m3 m4 m5 (min a c) (min b d) (max a c) (max b d)) (Gm.bndD m0 m1 m2 m3 m4 m5 (min a c) (min b d) (max a c) (max b d)) p q r s), .int .i64 0, .int .i64 0, .int .i64 (Gm.plY (Gm.bndE m0 m1 m2 m3 m4 m5 (min a c) (min b d) (max a c) (max b d)) (Gm.bndA m0 m1 m2 m3 m4 m5 (min a c) (min b d) (max a c) (max b d)) (Gm.bndB m0 m1 m2 m3 m4 m5 (min a c) (min b d) (max a c) (max b d)) (Gm.bndC m0 m1 m2 m3 m4 m5 (min a c) (min b d) (max a c) (max b d)) (Gm.bndD m0 m1 m2 m3 m4 m5 (min a c) (min b d) (max a c) (max b d)) p q r s), .int .i64 (Gm.plS (Gm.bndE m0 m1 m2 m3 m4 m5 (min a c) (min b d) (max a c) (max b d)) (Gm.bndA m0 m1 m2 m3 m4 m5 (min a c) (min b d) (max a c) (max b d)) (Gm.bndB m0 m1 m2 m3 m4 m5 (min a c) (min b d) (max a c) (max b d)) (Gm.bndC m0 m1 m2 m3 m4 m5 (min a c) (min b d) (max a c) (max b d)) (Gm.bndD m0 m1 m2 m3 m4 m5 (min a c) (min b d) (max a c) (max b d)) p q r s), .int .i64 (Gm.plT (Gm.bndE m0 m1 m2 m3 m4 m5 (min a c) (min b d) (max a c) (max b d)) (Gm.bndA m0 m1 m2 m3 m4 m5 (min a c) (min b d) (max a c) (max b d)) (Gm.bndB m0 m1 m2 m3 m4 m5 (min a c) (min b d) (max a c) (max b d)) (Gm.bndC m0 m1 m2 m3 m4 m5 (min a c) (min b d) (max a c) (max b d)) (Gm.bndD m0 m1 m2 m3 m4 m5 (min a c) (min b d) (max a c) (max b d)) p q r s)], .int .i64 (Gm.plE (Gm.bndE m0 m1 m2 m3 m4 m5 (min a c) (min b d) (max a c) (max b d)) (Gm.bndA m0 m1 m2 m3 m4 m5 (min a c) (min b d) (max a c) (max b d)) (Gm.bndB m0 m1 m2 m3 m4 m5 (min a c) (min b d) (max a c) (max b d)) (Gm.bndC m0 m1 m2 m3 m4 m5 (min a c) (min b d) (max a c) (max b d)) (Gm.bndD m0 m1 m2 m3 m4 m5 (min a c) (min b d) (max a c) (max b d)) p q r s)]) ∧ Kept w w' := by
  by_cases h0 : Gm.bndE m0 m1 m2 m3 m4 m5 (min a c) (min b d) (max a c) (max b d) = 0
  · by_cases h1 : Gm.scE (Gm.bndA m0 m1 m2 m3 m4 m5 (min a c) (min b d) (max a c) (max b d)) (Gm.bndB m0 m1 m2 m3 m4 m5 (min a c) (min b d) (max a c) (max b d)) (Gm.bndC m0 m1 m2 m3 m4 m5 (min a c) (min b d) (max a c) (max b d)) (Gm.bndD m0 m1 m2 m3 m4 m5 (min a c) (min b d) (max a c) (max b d)) (min p r) (min q s) (max p r) (max q s) = 0
    · by_cases h2 : Gm.shiE (min p r) (Gm.bndA m0 m1 m2 m3 m4 m5 (min a c) (min b d) (max a c) (max b d)) (Gm.scX (Gm.bndA m0 m1 m2 m3 m4 m5 (min a c) (min b d) (max a c) (max b d)) (Gm.bndB m0 m1 m2 m3 m4 m5 (min a c) (min b d) (max a c) (max b d)) (Gm.bndC m0 m1 m2 m3 m4 m5 (min a c) (min b d) (max a c) (max b d)) (Gm.bndD m0 m1 m2 m3 m4 m5 (min a c) (min b d) (max a c) (max b d)) (min p r) (min q s) (max p r) (max q s)) = 0
      · by_cases h3 : Gm.shiE (min q s) (Gm.bndB m0 m1 m2 m3 m4 m5 (min a c) (min b d) (max a c) (max b d)) (Gm.scY (Gm.bndA m0 m1 m2 m3 m4 m5 (min a c) (min b d) (max a c) (max b d)) (Gm.bndB m0 m1 m2 m3 m4 m5 (min a c) (min b d) (max a c) (max b d)) (Gm.bndC m0 m1 m2 m3 m4 m5 (min a c) (min b d) (max a c) (max b d)) (Gm.bndD m0 m1 m2 m3 m4 m5 (min a c) (min b d) (max a c) (max b d)) (min p r) (min q s) (max p r) (max q s)) = 0
        · exact Place_4 a b c d m0 m1 m2 m3 m4 m5 p q r s w h0 h1 h2 h3
        · exact Place_3 a b c d m0 m1 m2 m3 m4 m5 p q r s w h0 h1 h2 h3
      · exact Place_2 a b c d m0 m1 m2 m3 m4 m5 p q r s w h0 h1 h2
    · exact Place_1 a b c d m0 m1 m2 m3 m4 m5 p q r s w h0 h1
  · exact Place_0 a b c d m0 m1 m2 m3 m4 m5 p q r s w h0

end Go.Proofs.Ytbckjejflbfjlaa
