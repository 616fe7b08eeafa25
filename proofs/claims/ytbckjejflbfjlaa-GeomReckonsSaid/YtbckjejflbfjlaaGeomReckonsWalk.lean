/-
  The walk of the law GeomReckons.
-/
import Derived.Test.YtbckjejflbfjlaaGeomAwake
import Derived.Test.YtbckjejflbfjlaaGeomRefMul
import Derived.Test.YtbckjejflbfjlaaGeomRefPlace
import Derived.Test.YtbckjejflbfjlaaGeomEqRect
import Derived.Test.YtbckjejflbfjlaaHas
namespace Go.Proofs.Ytbckjejflbfjlaa
open Go.RowKit

theorem muls_let (m0 m1 m2 m3 m4 m5 n0 n1 n2 n3 n4 n5 : Int) : ∃ x0 x1 x2 x3 x4 x5 er : Int, (∀ w : World, Calls Try.prog 11 #[.agg #[.int .i64 m0, .int .i64 m1, .int .i64 m2, .int .i64 m3, .int .i64 m4, .int .i64 m5], .agg #[.int .i64 n0, .int .i64 n1, .int .i64 n2, .int .i64 n3, .int .i64 n4, .int .i64 n5]] w fun e w' => e = .returned (.tuple #[.agg #[.int .i64 x0, .int .i64 x1, .int .i64 x2, .int .i64 x3, .int .i64 x4, .int .i64 x5], .int .i64 er]) ∧ Kept w w') ∧ (∀ w : World, Calls Try.prog 12 #[.agg #[.int .i64 m0, .int .i64 m1, .int .i64 m2, .int .i64 m3, .int .i64 m4, .int .i64 m5], .agg #[.int .i64 n0, .int .i64 n1, .int .i64 n2, .int .i64 n3, .int .i64 n4, .int .i64 n5]] w fun e w' => e = .returned (.tuple #[.agg #[.int .i64 x0, .int .i64 x1, .int .i64 x2, .int .i64 x3, .int .i64 x4, .int .i64 x5], .int .i64 er]) ∧ Kept w w') :=
  ⟨_, _, _, _, _, _, _, GMul_any m0 m1 m2 m3 m4 m5 n0 n1 n2 n3 n4 n5, RMul2_any m0 m1 m2 m3 m4 m5 n0 n1 n2 n3 n4 n5⟩
theorem apps_let (m0 m1 m2 m3 m4 m5 x y : Int) : ∃ u v er : Int, (∀ w : World, Calls Try.prog 13 #[.agg #[.int .i64 m0, .int .i64 m1, .int .i64 m2, .int .i64 m3, .int .i64 m4, .int .i64 m5], .int .i64 x, .int .i64 y] w fun e w' => e = .returned (.tuple #[.int .i64 u, .int .i64 v, .int .i64 er]) ∧ Kept w w') ∧ (∀ w : World, Calls Try.prog 14 #[.agg #[.int .i64 m0, .int .i64 m1, .int .i64 m2, .int .i64 m3, .int .i64 m4, .int .i64 m5], .int .i64 x, .int .i64 y] w fun e w' => e = .returned (.tuple #[.int .i64 u, .int .i64 v, .int .i64 er]) ∧ Kept w w') :=
  ⟨_, _, _, Apply_any m0 m1 m2 m3 m4 m5 x y, RApply_any m0 m1 m2 m3 m4 m5 x y⟩
theorem bnds_let (m0 m1 m2 m3 m4 m5 a b c d : Int) : ∃ y0 y1 y2 y3 er : Int, (∀ w : World, Calls Try.prog 15 #[.agg #[.int .i64 m0, .int .i64 m1, .int .i64 m2, .int .i64 m3, .int .i64 m4, .int .i64 m5], .agg #[.int .i64 a, .int .i64 b, .int .i64 c, .int .i64 d]] w fun e w' => e = .returned (.tuple #[.agg #[.int .i64 y0, .int .i64 y1, .int .i64 y2, .int .i64 y3], .int .i64 er]) ∧ Kept w w') ∧ (∀ w : World, Calls Try.prog 16 #[.agg #[.int .i64 m0, .int .i64 m1, .int .i64 m2, .int .i64 m3, .int .i64 m4, .int .i64 m5], .agg #[.int .i64 a, .int .i64 b, .int .i64 c, .int .i64 d]] w fun e w' => e = .returned (.tuple #[.agg #[.int .i64 y0, .int .i64 y1, .int .i64 y2, .int .i64 y3], .int .i64 er]) ∧ Kept w w') :=
  ⟨_, _, _, _, _, Bounds_any m0 m1 m2 m3 m4 m5 a b c d, RBounds_any m0 m1 m2 m3 m4 m5 a b c d⟩
theorem plcs_let (a b c d m0 m1 m2 m3 m4 m5 p q r s : Int) : ∃ z0 z3 z4 z5 er : Int, (∀ w : World, Calls Try.prog 17 #[.agg #[.int .i64 a, .int .i64 b, .int .i64 c, .int .i64 d], .agg #[.int .i64 m0, .int .i64 m1, .int .i64 m2, .int .i64 m3, .int .i64 m4, .int .i64 m5], .agg #[.int .i64 p, .int .i64 q, .int .i64 r, .int .i64 s]] w fun e w' => e = .returned (.tuple #[.agg #[.int .i64 z0, .int .i64 0, .int .i64 0, .int .i64 z3, .int .i64 z4, .int .i64 z5], .int .i64 er]) ∧ Kept w w') ∧ (∀ w : World, Calls Try.prog 18 #[.agg #[.int .i64 a, .int .i64 b, .int .i64 c, .int .i64 d], .agg #[.int .i64 m0, .int .i64 m1, .int .i64 m2, .int .i64 m3, .int .i64 m4, .int .i64 m5], .agg #[.int .i64 p, .int .i64 q, .int .i64 r, .int .i64 s]] w fun e w' => e = .returned (.tuple #[.agg #[.int .i64 z0, .int .i64 0, .int .i64 0, .int .i64 z3, .int .i64 z4, .int .i64 z5], .int .i64 er]) ∧ Kept w w') :=
  ⟨_, _, _, _, _, Place_any a b c d m0 m1 m2 m3 m4 m5 p q r s, RPlace_any a b c d m0 m1 m2 m3 m4 m5 p q r s⟩

set_option maxHeartbeats 8000000 in
set_option maxRecDepth 100000 in
theorem GeomReckons_walk (m0 m1 m2 m3 m4 m5 n0 n1 n2 n3 n4 n5 a b c d p q r s : Int) (w : World) :
    Calls Try.prog 3 #[.agg #[.int .i64 m0, .int .i64 m1, .int .i64 m2, .int .i64 m3, .int .i64 m4, .int .i64 m5], .agg #[.int .i64 n0, .int .i64 n1, .int .i64 n2, .int .i64 n3, .int .i64 n4, .int .i64 n5], .agg #[.int .i64 a, .int .i64 b, .int .i64 c, .int .i64 d], .agg #[.int .i64 p, .int .i64 q, .int .i64 r, .int .i64 s]] w fun e w' => e = .returned (.bool true) ∧ Kept w w' := by
  obtain ⟨x0, x1, x2, x3, x4, x5, xe, hA, hA'⟩ := muls_let m0 m1 m2 m3 m4 m5 n0 n1 n2 n3 n4 n5
  obtain ⟨u, v, ue, hB, hB'⟩ := apps_let m0 m1 m2 m3 m4 m5 a b
  obtain ⟨y0, y1, y2, y3, ye, hC, hC'⟩ := bnds_let m0 m1 m2 m3 m4 m5 a b c d
  obtain ⟨z0, z3, z4, z5, ze, hD, hD'⟩ := plcs_let a b c d m0 m1 m2 m3 m4 m5 p q r s
  have HA := Lib.hid hA
  have HA' := Lib.hid hA'
  have HB := Lib.hid hB
  have HB' := Lib.hid hB'
  have HC := Lib.hid hC
  have HC' := Lib.hid hC'
  have HD := Lib.hid hD
  have HD' := Lib.hid hD'
  clear hA hA' hB hB' hC hC' hD hD'
  have ex := eql_mat_same x0 x1 x2 x3 x4 x5
  have ey := eql_rect_same y0 y1 y2 y3
  have ez := eql_mat_same z0 0 0 z3 z4 z5
  have eu := eql_mat_same 1000 0 0 1000 0 0
  go_enter Try.func3, Try.ntmps3
  go_wp2_with fail
  refine (awake2_any _).mono ?_
  rintro e w1 ⟨rfl, k1⟩
  have HX := Lib.hid (In.kept (In.fresh' (k := w.heap.size + 1 + 1 + 1) (In.fresh' (k := w.heap.size + 1 + 1) (In.fresh' (k := w.heap.size + 1) (In.fresh (In.start w) #[.int .i64 m0, .int .i64 m1, .int .i64 m2, .int .i64 m3, .int .i64 m4, .int .i64 m5] 24) #[.int .i64 n0, .int .i64 n1, .int .i64 n2, .int .i64 n3, .int .i64 n4, .int .i64 n5] 24 (by simp)) #[.int .i64 a, .int .i64 b, .int .i64 c, .int .i64 d] 26 (by simp)) #[.int .i64 p, .int .i64 q, .int .i64 r, .int .i64 s] 26 (by simp)) k1)
  clear k1
  obtain ⟨mc0, mc1, mc2, mc3, mc4, mc5⟩ := (HX.out.mem (List.mem_cons_of_mem _ (List.mem_cons_of_mem _ (List.mem_cons_of_mem _ (List.mem_cons_self))))).cells6
  obtain ⟨nc0, nc1, nc2, nc3, nc4, nc5⟩ := (HX.out.mem (List.mem_cons_of_mem _ (List.mem_cons_of_mem _ (List.mem_cons_self)))).cells6
  go_wp2_with fail
  refine (HA.out _).mono ?_
  rintro e w2 ⟨rfl, k2⟩
  have HX2 := Lib.hid (In.kept (HX.out) k2)
  clear k2 mc0 mc1 mc2 mc3 mc4 mc5 nc0 nc1 nc2 nc3 nc4 nc5 HX
  have HX := HX2
  clear HX2
  obtain ⟨mc0, mc1, mc2, mc3, mc4, mc5⟩ := (HX.out.mem (List.mem_cons_of_mem _ (List.mem_cons_of_mem _ (List.mem_cons_of_mem _ (List.mem_cons_self))))).cells6
  have mz := (HX.out.mem (List.mem_cons_of_mem _ (List.mem_cons_of_mem _ (List.mem_cons_of_mem _ (List.mem_cons_self))))).lt
  obtain ⟨nc0, nc1, nc2, nc3, nc4, nc5⟩ := (HX.out.mem (List.mem_cons_of_mem _ (List.mem_cons_of_mem _ (List.mem_cons_self)))).cells6
  have nz := (HX.out.mem (List.mem_cons_of_mem _ (List.mem_cons_of_mem _ (List.mem_cons_self)))).lt
  go_wp2_with fail
  refine (HA'.out _).mono ?_
  rintro e w3 ⟨rfl, k3⟩
  have HX3 := Lib.hid (In.kept (In.fresh HX.out #[.int .i64 x0, .int .i64 x1, .int .i64 x2, .int .i64 x3, .int .i64 x4, .int .i64 x5] 24) k3)
  clear k3 mc0 mc1 mc2 mc3 mc4 mc5 mz nc0 nc1 nc2 nc3 nc4 nc5 nz HX
  have HX := HX3
  clear HX3
  obtain ⟨mc0, mc1, mc2, mc3, mc4, mc5⟩ := (HX.out.mem (List.mem_cons_of_mem _ (List.mem_cons_of_mem _ (List.mem_cons_of_mem _ (List.mem_cons_of_mem _ (List.mem_cons_self)))))).cells6
  have mz := (HX.out.mem (List.mem_cons_of_mem _ (List.mem_cons_of_mem _ (List.mem_cons_of_mem _ (List.mem_cons_of_mem _ (List.mem_cons_self)))))).lt
  obtain ⟨rc0, rc1, rc2, rc3⟩ := (HX.out.mem (List.mem_cons_of_mem _ (List.mem_cons_of_mem _ (List.mem_cons_self)))).cells4
  have rz := (HX.out.mem (List.mem_cons_of_mem _ (List.mem_cons_of_mem _ (List.mem_cons_self)))).lt
  go_wp2_with fail
  refine (HB.out _).mono ?_
  rintro e w4 ⟨rfl, k4⟩
  have HX4 := Lib.hid (In.kept (In.fresh HX.out #[.int .i64 x0, .int .i64 x1, .int .i64 x2, .int .i64 x3, .int .i64 x4, .int .i64 x5] 24) k4)
  clear k4 mc0 mc1 mc2 mc3 mc4 mc5 mz rc0 rc1 rc2 rc3 rz HX
  have HX := HX4
  clear HX4
  obtain ⟨mc0, mc1, mc2, mc3, mc4, mc5⟩ := (HX.out.mem (List.mem_cons_of_mem _ (List.mem_cons_of_mem _ (List.mem_cons_of_mem _ (List.mem_cons_of_mem _ (List.mem_cons_of_mem _ (List.mem_cons_self))))))).cells6
  obtain ⟨rc0, rc1, rc2, rc3⟩ := (HX.out.mem (List.mem_cons_of_mem _ (List.mem_cons_of_mem _ (List.mem_cons_of_mem _ (List.mem_cons_self))))).cells4
  go_wp2_with fail
  refine (HB'.out _).mono ?_
  rintro e w5 ⟨rfl, k5⟩
  have HX5 := Lib.hid (In.kept (HX.out) k5)
  clear k5 mc0 mc1 mc2 mc3 mc4 mc5 rc0 rc1 rc2 rc3 HX
  have HX := HX5
  clear HX5
  obtain ⟨mc0, mc1, mc2, mc3, mc4, mc5⟩ := (HX.out.mem (List.mem_cons_of_mem _ (List.mem_cons_of_mem _ (List.mem_cons_of_mem _ (List.mem_cons_of_mem _ (List.mem_cons_of_mem _ (List.mem_cons_self))))))).cells6
  obtain ⟨rc0, rc1, rc2, rc3⟩ := (HX.out.mem (List.mem_cons_of_mem _ (List.mem_cons_of_mem _ (List.mem_cons_of_mem _ (List.mem_cons_self))))).cells4
  go_wp2_with fail
  refine (HC.out _).mono ?_
  rintro e w6 ⟨rfl, k6⟩
  have HX6 := Lib.hid (In.kept (HX.out) k6)
  clear k6 mc0 mc1 mc2 mc3 mc4 mc5 rc0 rc1 rc2 rc3 HX
  have HX := HX6
  clear HX6
  obtain ⟨mc0, mc1, mc2, mc3, mc4, mc5⟩ := (HX.out.mem (List.mem_cons_of_mem _ (List.mem_cons_of_mem _ (List.mem_cons_of_mem _ (List.mem_cons_of_mem _ (List.mem_cons_of_mem _ (List.mem_cons_self))))))).cells6
  have mz := (HX.out.mem (List.mem_cons_of_mem _ (List.mem_cons_of_mem _ (List.mem_cons_of_mem _ (List.mem_cons_of_mem _ (List.mem_cons_of_mem _ (List.mem_cons_self))))))).lt
  obtain ⟨rc0, rc1, rc2, rc3⟩ := (HX.out.mem (List.mem_cons_of_mem _ (List.mem_cons_of_mem _ (List.mem_cons_of_mem _ (List.mem_cons_self))))).cells4
  have rz := (HX.out.mem (List.mem_cons_of_mem _ (List.mem_cons_of_mem _ (List.mem_cons_of_mem _ (List.mem_cons_self))))).lt
  go_wp2_with fail
  refine (HC'.out _).mono ?_
  rintro e w7 ⟨rfl, k7⟩
  have HX7 := Lib.hid (In.kept (In.fresh HX.out #[.int .i64 y0, .int .i64 y1, .int .i64 y2, .int .i64 y3] 26) k7)
  clear k7 mc0 mc1 mc2 mc3 mc4 mc5 mz rc0 rc1 rc2 rc3 rz HX
  have HX := HX7
  clear HX7
  obtain ⟨mc0, mc1, mc2, mc3, mc4, mc5⟩ := (HX.out.mem (List.mem_cons_of_mem _ (List.mem_cons_of_mem _ (List.mem_cons_of_mem _ (List.mem_cons_of_mem _ (List.mem_cons_of_mem _ (List.mem_cons_of_mem _ (List.mem_cons_self)))))))).cells6
  have mz := (HX.out.mem (List.mem_cons_of_mem _ (List.mem_cons_of_mem _ (List.mem_cons_of_mem _ (List.mem_cons_of_mem _ (List.mem_cons_of_mem _ (List.mem_cons_of_mem _ (List.mem_cons_self)))))))).lt
  obtain ⟨rc0, rc1, rc2, rc3⟩ := (HX.out.mem (List.mem_cons_of_mem _ (List.mem_cons_of_mem _ (List.mem_cons_of_mem _ (List.mem_cons_of_mem _ (List.mem_cons_self)))))).cells4
  have rz := (HX.out.mem (List.mem_cons_of_mem _ (List.mem_cons_of_mem _ (List.mem_cons_of_mem _ (List.mem_cons_of_mem _ (List.mem_cons_self)))))).lt
  obtain ⟨sc0, sc1, sc2, sc3⟩ := (HX.out.mem (List.mem_cons_of_mem _ (List.mem_cons_of_mem _ (List.mem_cons_of_mem _ (List.mem_cons_self))))).cells4
  have sz := (HX.out.mem (List.mem_cons_of_mem _ (List.mem_cons_of_mem _ (List.mem_cons_of_mem _ (List.mem_cons_self))))).lt
  go_wp2_with fail
  refine (HD.out _).mono ?_
  rintro e w8 ⟨rfl, k8⟩
  have HX8 := Lib.hid (In.kept (In.fresh HX.out #[.int .i64 y0, .int .i64 y1, .int .i64 y2, .int .i64 y3] 26) k8)
  clear k8 mc0 mc1 mc2 mc3 mc4 mc5 mz rc0 rc1 rc2 rc3 rz sc0 sc1 sc2 sc3 sz HX
  have HX := HX8
  clear HX8
  obtain ⟨mc0, mc1, mc2, mc3, mc4, mc5⟩ := (HX.out.mem (List.mem_cons_of_mem _ (List.mem_cons_of_mem _ (List.mem_cons_of_mem _ (List.mem_cons_of_mem _ (List.mem_cons_of_mem _ (List.mem_cons_of_mem _ (List.mem_cons_of_mem _ (List.mem_cons_self))))))))).cells6
  have mz := (HX.out.mem (List.mem_cons_of_mem _ (List.mem_cons_of_mem _ (List.mem_cons_of_mem _ (List.mem_cons_of_mem _ (List.mem_cons_of_mem _ (List.mem_cons_of_mem _ (List.mem_cons_of_mem _ (List.mem_cons_self))))))))).lt
  obtain ⟨rc0, rc1, rc2, rc3⟩ := (HX.out.mem (List.mem_cons_of_mem _ (List.mem_cons_of_mem _ (List.mem_cons_of_mem _ (List.mem_cons_of_mem _ (List.mem_cons_of_mem _ (List.mem_cons_self))))))).cells4
  have rz := (HX.out.mem (List.mem_cons_of_mem _ (List.mem_cons_of_mem _ (List.mem_cons_of_mem _ (List.mem_cons_of_mem _ (List.mem_cons_of_mem _ (List.mem_cons_self))))))).lt
  obtain ⟨sc0, sc1, sc2, sc3⟩ := (HX.out.mem (List.mem_cons_of_mem _ (List.mem_cons_of_mem _ (List.mem_cons_of_mem _ (List.mem_cons_of_mem _ (List.mem_cons_self)))))).cells4
  have sz := (HX.out.mem (List.mem_cons_of_mem _ (List.mem_cons_of_mem _ (List.mem_cons_of_mem _ (List.mem_cons_of_mem _ (List.mem_cons_self)))))).lt
  go_wp2_with fail
  refine (HD'.out _).mono ?_
  rintro e w9 ⟨rfl, k9⟩
  have HX9 := Lib.hid (In.kept (In.fresh HX.out #[.int .i64 z0, .int .i64 0, .int .i64 0, .int .i64 z3, .int .i64 z4, .int .i64 z5] 24) k9)
  clear k9 mc0 mc1 mc2 mc3 mc4 mc5 mz rc0 rc1 rc2 rc3 rz sc0 sc1 sc2 sc3 sz HX
  have HX := HX9
  clear HX9
  obtain ⟨zz0, zz1, zz2, zz3, zz4, zz5⟩ := (HX.out.mem (List.mem_cons_self)).cells6
  have zzz := (HX.out.mem (List.mem_cons_self)).lt
  obtain ⟨yy0, yy1, yy2, yy3⟩ := (HX.out.mem (List.mem_cons_of_mem _ (List.mem_cons_self))).cells4
  have yyz := (HX.out.mem (List.mem_cons_of_mem _ (List.mem_cons_self))).lt
  obtain ⟨yv0, yv1, yv2, yv3⟩ := (HX.out.mem (List.mem_cons_of_mem _ (List.mem_cons_of_mem _ (List.mem_cons_self)))).cells4
  have yvz := (HX.out.mem (List.mem_cons_of_mem _ (List.mem_cons_of_mem _ (List.mem_cons_self)))).lt
  obtain ⟨xx0, xx1, xx2, xx3, xx4, xx5⟩ := (HX.out.mem (List.mem_cons_of_mem _ (List.mem_cons_of_mem _ (List.mem_cons_of_mem _ (List.mem_cons_self))))).cells6
  have xxz := (HX.out.mem (List.mem_cons_of_mem _ (List.mem_cons_of_mem _ (List.mem_cons_of_mem _ (List.mem_cons_self))))).lt
  obtain ⟨xv0, xv1, xv2, xv3, xv4, xv5⟩ := (HX.out.mem (List.mem_cons_of_mem _ (List.mem_cons_of_mem _ (List.mem_cons_of_mem _ (List.mem_cons_of_mem _ (List.mem_cons_self)))))).cells6
  have xvz := (HX.out.mem (List.mem_cons_of_mem _ (List.mem_cons_of_mem _ (List.mem_cons_of_mem _ (List.mem_cons_of_mem _ (List.mem_cons_self)))))).lt
  go_wp2_with fail
  refine (Unit_any _).mono ?_
  rintro e w10 ⟨rfl, k10⟩
  go_wp2_with fail
  refine (RUnit_any _).mono ?_
  rintro e w11 ⟨rfl, k11⟩
  go_wp2_with fail
  go_ret
  exact ⟨rfl, ((HX.out.1.allocO _).trans k10).trans k11⟩

end Go.Proofs.Ytbckjejflbfjlaa
