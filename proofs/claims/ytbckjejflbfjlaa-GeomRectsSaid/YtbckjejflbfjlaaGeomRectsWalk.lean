/-
  The walk of the law GeomRects.
-/
import Derived.Test.YtbckjejflbfjlaaGeomAwake
import Derived.Test.YtbckjejflbfjlaaGeomRects
import Derived.Test.YtbckjejflbfjlaaGeomRefInset
import Derived.Test.YtbckjejflbfjlaaGeomEqRect
import Derived.Test.YtbckjejflbfjlaaHas
namespace Go.Proofs.Ytbckjejflbfjlaa
open Go.RowKit

theorem sizes_let (a b c d : Int) : ∃ x y z : Int, (∀ w : World, Calls Try.prog 21 #[.agg #[.int .i64 a, .int .i64 b, .int .i64 c, .int .i64 d]] w fun e w' => e = .returned (.tuple #[.int .i64 x, .int .i64 y, .int .i64 z]) ∧ Kept w w') ∧ (∀ w : World, Calls Try.prog 22 #[.agg #[.int .i64 a, .int .i64 b, .int .i64 c, .int .i64 d]] w fun e w' => e = .returned (.tuple #[.int .i64 x, .int .i64 y, .int .i64 z]) ∧ Kept w w') :=
  ⟨_, _, _, Size_any a b c d, RSize_any a b c d⟩
theorem norms_let (a b c d : Int) : ∃ m0 m1 m2 m3 : Int, (∀ w : World, Calls Try.prog 27 #[.agg #[.int .i64 a, .int .i64 b, .int .i64 c, .int .i64 d]] w fun e w' => e = .returned (.agg #[.int .i64 m0, .int .i64 m1, .int .i64 m2, .int .i64 m3]) ∧ Kept w w') ∧ (∀ w : World, Calls Try.prog 28 #[.agg #[.int .i64 a, .int .i64 b, .int .i64 c, .int .i64 d]] w fun e w' => e = .returned (.agg #[.int .i64 m0, .int .i64 m1, .int .i64 m2, .int .i64 m3]) ∧ Kept w w') :=
  ⟨_, _, _, _, Norm_any a b c d, RNorm_kept a b c d⟩
theorem meets_let (a b c d p q r s : Int) : ∃ (m0 m1 m2 m3 : Int) (o : Bool), (∀ w : World, Calls Try.prog 23 #[.agg #[.int .i64 a, .int .i64 b, .int .i64 c, .int .i64 d], .agg #[.int .i64 p, .int .i64 q, .int .i64 r, .int .i64 s]] w fun e w' => e = .returned (.tuple #[.agg #[.int .i64 m0, .int .i64 m1, .int .i64 m2, .int .i64 m3], .bool o]) ∧ Kept w w') ∧ (∀ w : World, Calls Try.prog 24 #[.agg #[.int .i64 a, .int .i64 b, .int .i64 c, .int .i64 d], .agg #[.int .i64 p, .int .i64 q, .int .i64 r, .int .i64 s]] w fun e w' => e = .returned (.tuple #[.agg #[.int .i64 m0, .int .i64 m1, .int .i64 m2, .int .i64 m3], .bool o]) ∧ Kept w w') :=
  ⟨_, _, _, _, _, Meet_any a b c d p q r s, RMeet_any a b c d p q r s⟩
theorem insets_let (a b c d h : Int) : ∃ (m0 m1 m2 m3 : Int) (o : Bool), (∀ w : World, Calls Try.prog 25 #[.agg #[.int .i64 a, .int .i64 b, .int .i64 c, .int .i64 d], .int .i64 h] w fun e w' => e = .returned (.tuple #[.agg #[.int .i64 m0, .int .i64 m1, .int .i64 m2, .int .i64 m3], .bool o]) ∧ Kept w w') ∧ (∀ w : World, Calls Try.prog 26 #[.agg #[.int .i64 a, .int .i64 b, .int .i64 c, .int .i64 d], .int .i64 h] w fun e w' => e = .returned (.tuple #[.agg #[.int .i64 m0, .int .i64 m1, .int .i64 m2, .int .i64 m3], .bool o]) ∧ Kept w w') :=
  ⟨_, _, _, _, _, Inset_any a b c d h, RInset_any a b c d h⟩
theorem rectsS {a b c d p q r s m0 m1 m2 m3 i0 i1 i2 i3 : Int} {ki kj km kn : Nat} {w wx : World} (h : In w [(ki, #[.int .i64 i0, .int .i64 i1, .int .i64 i2, .int .i64 i3], 26), (kj, #[.int .i64 i0, .int .i64 i1, .int .i64 i2, .int .i64 i3], 26), (km, #[.int .i64 m0, .int .i64 m1, .int .i64 m2, .int .i64 m3], 26), (kn, #[.int .i64 m0, .int .i64 m1, .int .i64 m2, .int .i64 m3], 26), (w.heap.size + 1, #[.int .i64 p, .int .i64 q, .int .i64 r, .int .i64 s], 26), (w.heap.size, #[.int .i64 a, .int .i64 b, .int .i64 c, .int .i64 d], 26)] wx) :
    wx.cell? ⟨ki, 0, none⟩ = some (.int .i64 i0) ∧ wx.cell? ⟨ki, 1, none⟩ = some (.int .i64 i1) ∧ wx.cell? ⟨ki, 2, none⟩ = some (.int .i64 i2) ∧ wx.cell? ⟨ki, 3, none⟩ = some (.int .i64 i3) ∧ wx.cell? ⟨kj, 0, none⟩ = some (.int .i64 i0) ∧ wx.cell? ⟨kj, 1, none⟩ = some (.int .i64 i1) ∧ wx.cell? ⟨kj, 2, none⟩ = some (.int .i64 i2) ∧ wx.cell? ⟨kj, 3, none⟩ = some (.int .i64 i3) ∧ wx.cell? ⟨km, 0, none⟩ = some (.int .i64 m0) ∧ wx.cell? ⟨km, 1, none⟩ = some (.int .i64 m1) ∧ wx.cell? ⟨km, 2, none⟩ = some (.int .i64 m2) ∧ wx.cell? ⟨km, 3, none⟩ = some (.int .i64 m3) ∧ wx.cell? ⟨kn, 0, none⟩ = some (.int .i64 m0) ∧ wx.cell? ⟨kn, 1, none⟩ = some (.int .i64 m1) ∧ wx.cell? ⟨kn, 2, none⟩ = some (.int .i64 m2) ∧ wx.cell? ⟨kn, 3, none⟩ = some (.int .i64 m3) ∧ wx.cell? ⟨w.heap.size, 0, none⟩ = some (.int .i64 a) ∧ wx.cell? ⟨w.heap.size, 1, none⟩ = some (.int .i64 b) ∧ wx.cell? ⟨w.heap.size, 2, none⟩ = some (.int .i64 c) ∧ wx.cell? ⟨w.heap.size, 3, none⟩ = some (.int .i64 d) :=
  have x := (h.mem (List.mem_cons_self)).cells4
  have y := (h.mem (List.mem_cons_of_mem _ (List.mem_cons_self))).cells4
  have z := (h.mem (List.mem_cons_of_mem _ (List.mem_cons_of_mem _ (List.mem_cons_self)))).cells4
  have u := (h.mem (List.mem_cons_of_mem _ (List.mem_cons_of_mem _ (List.mem_cons_of_mem _ (List.mem_cons_self))))).cells4
  have v := (h.mem (List.mem_cons_of_mem _ (List.mem_cons_of_mem _ (List.mem_cons_of_mem _ (List.mem_cons_of_mem _ (List.mem_cons_of_mem _ (List.mem_cons_self))))))).cells4
  ⟨x.1, x.2.1, x.2.2.1, x.2.2.2, y.1, y.2.1, y.2.2.1, y.2.2.2, z.1, z.2.1, z.2.2.1, z.2.2.2, u.1, u.2.1, u.2.2.1, u.2.2.2, v.1, v.2.1, v.2.2.1, v.2.2.2⟩

set_option maxHeartbeats 8000000 in
set_option maxRecDepth 100000 in
theorem GeomRects_walk (a b c d p q r s h : Int) (w : World) :
    Calls Try.prog 4 #[.agg #[.int .i64 a, .int .i64 b, .int .i64 c, .int .i64 d], .agg #[.int .i64 p, .int .i64 q, .int .i64 r, .int .i64 s], .int .i64 h] w fun e w' => e = .returned (.bool true) ∧ Kept w w' := by
  obtain ⟨x, y, z, hS, hS'⟩ := sizes_let a b c d
  obtain ⟨n0, n1, n2, n3, hN, hN'⟩ := norms_let a b c d
  obtain ⟨m0, m1, m2, m3, mo, hM, hM'⟩ := meets_let a b c d p q r s
  obtain ⟨i0, i1, i2, i3, io, hI, hI'⟩ := insets_let a b c d h
  have HS := Lib.hid hS
  have HS' := Lib.hid hS'
  have HN := Lib.hid hN
  have HN' := Lib.hid hN'
  have HM := Lib.hid hM
  have HM' := Lib.hid hM'
  have HI := Lib.hid hI
  have HI' := Lib.hid hI'
  clear hS hS' hN hN' hM hM' hI hI'
  have en := eql_rect_same n0 n1 n2 n3
  have em := eql_rect_same m0 m1 m2 m3
  have ei := eql_rect_same i0 i1 i2 i3
  go_enter Try.func4, Try.ntmps4
  go_wp2_with fail
  refine (awake2_any _).mono ?_
  rintro e w1 ⟨rfl, k1⟩
  have HX := Lib.hid (In.kept (In.fresh' (k := w.heap.size + 1) (In.fresh (In.start w) #[.int .i64 a, .int .i64 b, .int .i64 c, .int .i64 d] 26) #[.int .i64 p, .int .i64 q, .int .i64 r, .int .i64 s] 26 (by simp)) k1)
  clear k1
  obtain ⟨r0, r1, r2, r3⟩ := (HX.out.mem (List.mem_cons_of_mem _ (List.mem_cons_self))).cells4
  go_wp2_with fail
  refine (HS.out _).mono ?_
  rintro e w2 ⟨rfl, k2⟩
  have HX2 := Lib.hid (In.kept (HX.out) k2)
  clear k2 r0 r1 r2 r3 HX
  have HX := HX2
  clear HX2
  obtain ⟨r0, r1, r2, r3⟩ := (HX.out.mem (List.mem_cons_of_mem _ (List.mem_cons_self))).cells4
  go_wp2_with fail
  refine (HS'.out _).mono ?_
  rintro e w3 ⟨rfl, k3⟩
  have HX3 := Lib.hid (In.kept (HX.out) k3)
  clear k3 r0 r1 r2 r3 HX
  have HX := HX3
  clear HX3
  obtain ⟨r0, r1, r2, r3⟩ := (HX.out.mem (List.mem_cons_of_mem _ (List.mem_cons_self))).cells4
  obtain ⟨s0, s1, s2, s3⟩ := (HX.out.mem (List.mem_cons_self)).cells4
  go_wp2_with fail
  refine (HM.out _).mono ?_
  rintro e w4 ⟨rfl, k4⟩
  have HX4 := Lib.hid (In.kept (HX.out) k4)
  clear k4 r0 r1 r2 r3 s0 s1 s2 s3 HX
  have HX := HX4
  clear HX4
  obtain ⟨r0, r1, r2, r3⟩ := (HX.out.mem (List.mem_cons_of_mem _ (List.mem_cons_self))).cells4
  have rz := (HX.out.mem (List.mem_cons_of_mem _ (List.mem_cons_self))).lt
  obtain ⟨s0, s1, s2, s3⟩ := (HX.out.mem (List.mem_cons_self)).cells4
  have sz := (HX.out.mem (List.mem_cons_self)).lt
  go_wp2_with fail
  refine (HM'.out _).mono ?_
  rintro e w5 ⟨rfl, k5⟩
  have HX5 := Lib.hid (In.kept (In.fresh HX.out #[.int .i64 m0, .int .i64 m1, .int .i64 m2, .int .i64 m3] 26) k5)
  clear k5 r0 r1 r2 r3 rz s0 s1 s2 s3 sz HX
  have HX := HX5
  clear HX5
  obtain ⟨r0, r1, r2, r3⟩ := (HX.out.mem (List.mem_cons_of_mem _ (List.mem_cons_of_mem _ (List.mem_cons_self)))).cells4
  have rz := (HX.out.mem (List.mem_cons_of_mem _ (List.mem_cons_of_mem _ (List.mem_cons_self)))).lt
  go_wp2_with fail
  refine (HI.out _).mono ?_
  rintro e w6 ⟨rfl, k6⟩
  have HX6 := Lib.hid (In.kept (In.fresh HX.out #[.int .i64 m0, .int .i64 m1, .int .i64 m2, .int .i64 m3] 26) k6)
  clear k6 r0 r1 r2 r3 rz HX
  have HX := HX6
  clear HX6
  obtain ⟨r0, r1, r2, r3⟩ := (HX.out.mem (List.mem_cons_of_mem _ (List.mem_cons_of_mem _ (List.mem_cons_of_mem _ (List.mem_cons_self))))).cells4
  have rz := (HX.out.mem (List.mem_cons_of_mem _ (List.mem_cons_of_mem _ (List.mem_cons_of_mem _ (List.mem_cons_self))))).lt
  go_wp2_with fail
  refine (HI'.out _).mono ?_
  rintro e w7 ⟨rfl, k7⟩
  have HX7 := Lib.hid (In.kept (In.fresh HX.out #[.int .i64 i0, .int .i64 i1, .int .i64 i2, .int .i64 i3] 26) k7)
  clear k7 r0 r1 r2 r3 rz HX
  have HX := HX7
  clear HX7
  have HX7 := Lib.hid (In.fresh HX.out #[.int .i64 i0, .int .i64 i1, .int .i64 i2, .int .i64 i3] 26)
  clear HX
  have HX := HX7
  clear HX7
  go_wp2_with fail
  go_region_held3 (fun w' => w'.cell? ⟨w7.heap.size, 0, none⟩ = some (.int .i64 i0) ∧ w'.cell? ⟨w7.heap.size, 1, none⟩ = some (.int .i64 i1) ∧ w'.cell? ⟨w7.heap.size, 2, none⟩ = some (.int .i64 i2) ∧ w'.cell? ⟨w7.heap.size, 3, none⟩ = some (.int .i64 i3) ∧ w'.cell? ⟨w6.heap.size, 0, none⟩ = some (.int .i64 i0) ∧ w'.cell? ⟨w6.heap.size, 1, none⟩ = some (.int .i64 i1) ∧ w'.cell? ⟨w6.heap.size, 2, none⟩ = some (.int .i64 i2) ∧ w'.cell? ⟨w6.heap.size, 3, none⟩ = some (.int .i64 i3) ∧ w'.cell? ⟨w5.heap.size, 0, none⟩ = some (.int .i64 m0) ∧ w'.cell? ⟨w5.heap.size, 1, none⟩ = some (.int .i64 m1) ∧ w'.cell? ⟨w5.heap.size, 2, none⟩ = some (.int .i64 m2) ∧ w'.cell? ⟨w5.heap.size, 3, none⟩ = some (.int .i64 m3) ∧ w'.cell? ⟨w4.heap.size, 0, none⟩ = some (.int .i64 m0) ∧ w'.cell? ⟨w4.heap.size, 1, none⟩ = some (.int .i64 m1) ∧ w'.cell? ⟨w4.heap.size, 2, none⟩ = some (.int .i64 m2) ∧ w'.cell? ⟨w4.heap.size, 3, none⟩ = some (.int .i64 m3) ∧ w'.cell? ⟨w.heap.size, 0, none⟩ = some (.int .i64 a) ∧ w'.cell? ⟨w.heap.size, 1, none⟩ = some (.int .i64 b) ∧ w'.cell? ⟨w.heap.size, 2, none⟩ = some (.int .i64 c) ∧ w'.cell? ⟨w.heap.size, 3, none⟩ = some (.int .i64 d)) (first | with_reducible exact rectsS HX.out | with_reducible exact rectsS HX.out.drew)
    (first
      | (go_at_call 27; refine (HN.out _).mono ?_; rintro e wn ⟨rfl, kn⟩; (first | (with_reducible have HX := Lib.hid (In.kept HX.out kn)) | (with_reducible have HX := Lib.hid (In.kept (In.drew HX.out) kn))))
      | (go_at_call 28; refine (HN'.out _).mono ?_; rintro e wn ⟨rfl, kn⟩; (first | (with_reducible have HX := Lib.hid (In.kept HX.out kn)) | (with_reducible have HX := Lib.hid (In.kept (In.drew HX.out) kn)))))
  go_wp2_with fail
  go_ret
  exact ⟨rfl, HX.out.1⟩

end Go.Proofs.Ytbckjejflbfjlaa
