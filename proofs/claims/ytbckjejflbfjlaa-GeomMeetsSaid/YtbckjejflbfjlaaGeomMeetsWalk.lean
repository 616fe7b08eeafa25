/-
  The walk of the law GeomMeets.
-/
import Derived.Test.YtbckjejflbfjlaaGeomAwake
import Derived.Test.YtbckjejflbfjlaaGeomSizesMath
import Derived.Test.YtbckjejflbfjlaaGeomSizesWalk
namespace Go.Proofs.Ytbckjejflbfjlaa
open Go.RowKit
attribute [local go_sem ↓] run_least run_greatest

theorem norm_let (a b c d : Int) : ∃ n0 n1 n2 n3 : Int, (∀ w : World, Calls Try.prog 27 #[.agg #[.int .i64 a, .int .i64 b, .int .i64 c, .int .i64 d]] w fun e w' => e = .returned (.agg #[.int .i64 n0, .int .i64 n1, .int .i64 n2, .int .i64 n3]) ∧ Kept w w') ∧ n0 ≤ n2 ∧ n1 ≤ n3 ∧ n0 = min a c ∧ n1 = min b d ∧ n2 = max a c ∧ n3 = max b d :=
  ⟨_, _, _, _, Norm_any a b c d, by omega, by omega, rfl, rfl, rfl, rfl⟩
theorem meet_let (a b c d p q r s : Int) (h : Gm.insB (max (min a c) (min p r)) (max (min b d) (min q s)) (min (max a c) (max p r)) (min (max b d) (max q s)) = true) :
    ∃ m0 m1 m2 m3 : Int, (∀ w : World, Calls Try.prog 23 #[.agg #[.int .i64 a, .int .i64 b, .int .i64 c, .int .i64 d], .agg #[.int .i64 p, .int .i64 q, .int .i64 r, .int .i64 s]] w fun e w' => e = .returned (.tuple #[.agg #[.int .i64 m0, .int .i64 m1, .int .i64 m2, .int .i64 m3], .bool true]) ∧ Kept w w') ∧ (∀ w : World, Calls Try.prog 23 #[.agg #[.int .i64 p, .int .i64 q, .int .i64 r, .int .i64 s], .agg #[.int .i64 a, .int .i64 b, .int .i64 c, .int .i64 d]] w fun e w' => e = .returned (.tuple #[.agg #[.int .i64 m0, .int .i64 m1, .int .i64 m2, .int .i64 m3], .bool true]) ∧ Kept w w') ∧
      m0 < m2 ∧ m1 < m3 ∧ min a c ≤ m0 ∧ min b d ≤ m1 ∧ m2 ≤ max a c ∧ m3 ≤ max b d ∧ min p r ≤ m0 ∧ min q s ≤ m1 ∧ m2 ≤ max p r ∧ m3 ≤ max q s := by
  have k := Gm.ins_iff.1 h
  have e0 : max (min p r) (min a c) = max (min a c) (min p r) := Int.max_comm _ _
  have e1 : max (min q s) (min b d) = max (min b d) (min q s) := Int.max_comm _ _
  have e2 : min (max p r) (max a c) = min (max a c) (max p r) := Int.min_comm _ _
  have e3 : min (max q s) (max b d) = min (max b d) (max q s) := Int.min_comm _ _
  refine ⟨_, _, _, _, fun w => Meet_yes a b c d p q r s w h, fun w => ?_, k.1, k.2, Int.le_max_left _ _, Int.le_max_left _ _, Int.min_le_left _ _, Int.min_le_left _ _, Int.le_max_right _ _, Int.le_max_right _ _, Int.min_le_right _ _, Int.min_le_right _ _⟩
  have q' := Meet_yes p q r s a b c d w (by rw [e0, e1, e2, e3]; exact h)
  rw [e0, e1, e2, e3] at q'
  exact q'
theorem meet_none (a b c d p q r s : Int) (h : Gm.insB (max (min a c) (min p r)) (max (min b d) (min q s)) (min (max a c) (max p r)) (min (max b d) (max q s)) = false) :
    (∀ w : World, Calls Try.prog 23 #[.agg #[.int .i64 a, .int .i64 b, .int .i64 c, .int .i64 d], .agg #[.int .i64 p, .int .i64 q, .int .i64 r, .int .i64 s]] w fun e w' => e = .returned (.tuple #[.agg #[.int .i64 0, .int .i64 0, .int .i64 0, .int .i64 0], .bool false]) ∧ Kept w w') ∧ (∀ w : World, Calls Try.prog 23 #[.agg #[.int .i64 p, .int .i64 q, .int .i64 r, .int .i64 s], .agg #[.int .i64 a, .int .i64 b, .int .i64 c, .int .i64 d]] w fun e w' => e = .returned (.tuple #[.agg #[.int .i64 0, .int .i64 0, .int .i64 0, .int .i64 0], .bool false]) ∧ Kept w w') := by
  have e0 : max (min p r) (min a c) = max (min a c) (min p r) := Int.max_comm _ _
  have e1 : max (min q s) (min b d) = max (min b d) (min q s) := Int.max_comm _ _
  have e2 : min (max p r) (max a c) = min (max a c) (max p r) := Int.min_comm _ _
  have e3 : min (max q s) (max b d) = min (max b d) (max q s) := Int.min_comm _ _
  exact ⟨fun w => Meet_no a b c d p q r s w h, fun w => Meet_no p q r s a b c d w (by rw [e0, e1, e2, e3]; exact h)⟩
theorem inset_let (a b c d h : Int) (k : Gm.setB a b c d (max h 0) = true) :
    ∃ m0 m1 m2 m3 : Int, (∀ w : World, Calls Try.prog 25 #[.agg #[.int .i64 a, .int .i64 b, .int .i64 c, .int .i64 d], .int .i64 (max h 0)] w fun e w' => e = .returned (.tuple #[.agg #[.int .i64 m0, .int .i64 m1, .int .i64 m2, .int .i64 m3], .bool true]) ∧ Kept w w') ∧ m0 < m2 ∧ m1 < m3 ∧ min a c ≤ m0 ∧ min b d ≤ m1 ∧ m2 ≤ max a c ∧ m3 ≤ max b d := by
  have v := Gm.set_val k
  exact ⟨_, _, _, _, fun w => Inset_is a b c d (max h 0) w k, v.2.2.2.2.2.1, v.2.2.2.2.2.2, by omega, by omega, by omega, by omega⟩

set_option maxHeartbeats 1000000 in
theorem within_yes (a b c d p q r s : Int) (w : World) (h0 : p ≤ a) (h1 : q ≤ b) (h2 : c ≤ r) (h3 : d ≤ s) :
    Calls Try.prog 31 #[.agg #[.int .i64 a, .int .i64 b, .int .i64 c, .int .i64 d], .agg #[.int .i64 p, .int .i64 q, .int .i64 r, .int .i64 s]] w fun e w' => e = .returned (.bool true) ∧ Kept w w' := by
  go_enter Try.func31, Try.ntmps31
  go_wp2_with fail
  go_ret
  exact ⟨rfl, ((Kept.refl w).alloc _ _).alloc _ _⟩

/-- What lies in memory while the law compares: the two rectangles, what they have together, what lies within the first. -/
def MeetsIn (a b c d p q r s m0 m1 m2 m3 i0 i1 i2 i3 : Int) (km ki : Nat) (w wx : World) : Prop :=
  Kept w wx ∧ Blk wx w.heap.size #[.int .i64 a, .int .i64 b, .int .i64 c, .int .i64 d] 26 ∧ Blk wx (w.heap.size + 1) #[.int .i64 p, .int .i64 q, .int .i64 r, .int .i64 s] 26 ∧ Blk wx km #[.int .i64 m0, .int .i64 m1, .int .i64 m2, .int .i64 m3] 26 ∧ Blk wx ki #[.int .i64 i0, .int .i64 i1, .int .i64 i2, .int .i64 i3] 26
section
variable {a b c d p q r s m0 m1 m2 m3 i0 i1 i2 i3 : Int} {km ki : Nat} {w wx w' : World}
theorem MeetsIn.kept (h : MeetsIn a b c d p q r s m0 m1 m2 m3 i0 i1 i2 i3 km ki w wx) (k : Kept wx w') : MeetsIn a b c d p q r s m0 m1 m2 m3 i0 i1 i2 i3 km ki w w' :=
  ⟨h.1.trans k, h.2.1.kept k, h.2.2.1.kept k, h.2.2.2.1.kept k, h.2.2.2.2.kept k⟩
theorem MeetsIn.drew (h : MeetsIn a b c d p q r s m0 m1 m2 m3 i0 i1 i2 i3 km ki w wx) : MeetsIn a b c d p q r s m0 m1 m2 m3 i0 i1 i2 i3 km ki w wx.drew :=
  ⟨h.1.drew, h.2.1, h.2.2.1, h.2.2.2.1, h.2.2.2.2⟩
theorem MeetsIn.drewN (h : MeetsIn a b c d p q r s m0 m1 m2 m3 i0 i1 i2 i3 km ki w wx) (n : Nat) : MeetsIn a b c d p q r s m0 m1 m2 m3 i0 i1 i2 i3 km ki w (wx.drewN n) :=
  ⟨h.1.drewN n, h.2.1, h.2.2.1, h.2.2.2.1, h.2.2.2.2⟩
theorem MeetsIn.cells (h : MeetsIn a b c d p q r s m0 m1 m2 m3 i0 i1 i2 i3 km ki w wx) :
    wx.cell? ⟨w.heap.size, 0, none⟩ = some (.int .i64 a) ∧ wx.cell? ⟨w.heap.size, 1, none⟩ = some (.int .i64 b) ∧ wx.cell? ⟨w.heap.size, 2, none⟩ = some (.int .i64 c) ∧ wx.cell? ⟨w.heap.size, 3, none⟩ = some (.int .i64 d) ∧ wx.cell? ⟨w.heap.size + 1, 0, none⟩ = some (.int .i64 p) ∧ wx.cell? ⟨w.heap.size + 1, 1, none⟩ = some (.int .i64 q) ∧ wx.cell? ⟨w.heap.size + 1, 2, none⟩ = some (.int .i64 r) ∧ wx.cell? ⟨w.heap.size + 1, 3, none⟩ = some (.int .i64 s) ∧ wx.cell? ⟨km, 0, none⟩ = some (.int .i64 m0) ∧ wx.cell? ⟨km, 1, none⟩ = some (.int .i64 m1) ∧ wx.cell? ⟨km, 2, none⟩ = some (.int .i64 m2) ∧ wx.cell? ⟨km, 3, none⟩ = some (.int .i64 m3) ∧ wx.cell? ⟨ki, 0, none⟩ = some (.int .i64 i0) ∧ wx.cell? ⟨ki, 1, none⟩ = some (.int .i64 i1) ∧ wx.cell? ⟨ki, 2, none⟩ = some (.int .i64 i2) ∧ wx.cell? ⟨ki, 3, none⟩ = some (.int .i64 i3) :=
  have x := h.2.1.cells4
  have y := h.2.2.1.cells4
  have z := h.2.2.2.1.cells4
  have u := h.2.2.2.2.cells4
  ⟨x.1, x.2.1, x.2.2.1, x.2.2.2, y.1, y.2.1, y.2.2.1, y.2.2.2, z.1, z.2.1, z.2.2.1, z.2.2.2, u.1, u.2.1, u.2.2.1, u.2.2.2⟩
end

set_option maxHeartbeats 8000000 in
theorem GeomMeets_A (a b c d p q r s h : Int) (w : World) (hm : Gm.insB (max (min a c) (min p r)) (max (min b d) (min q s)) (min (max a c) (max p r)) (min (max b d) (max q s)) = true) (hi : Gm.setB a b c d (max h 0) = true) :
    Calls Try.prog 6 #[.agg #[.int .i64 a, .int .i64 b, .int .i64 c, .int .i64 d], .agg #[.int .i64 p, .int .i64 q, .int .i64 r, .int .i64 s], .int .i64 h] w fun e w' => e = .returned (.bool true) ∧ Kept w w' := by
  obtain ⟨n0, n1, n2, n3, hN, -, -, en0, en1, en2, en3⟩ := norm_let a b c d
  obtain ⟨o0, o1, o2, o3, hO, -, -, eo0, eo1, eo2, eo3⟩ := norm_let p q r s
  obtain ⟨m0, m1, m2, m3, hM, hM', l0, l1, l2, l3, l4, l5, l6, l7, l8, l9⟩ := meet_let a b c d p q r s hm
  rw [← en0] at l2
  rw [← en1] at l3
  rw [← en2] at l4
  rw [← en3] at l5
  rw [← eo0] at l6
  rw [← eo1] at l7
  rw [← eo2] at l8
  rw [← eo3] at l9
  obtain ⟨i0, i1, i2, i3, hI, j0, j1, j2, j3, j4, j5⟩ := inset_let a b c d h hi
  rw [← en0] at j2
  rw [← en1] at j3
  rw [← en2] at j4
  rw [← en3] at j5
  have HN := Lib.hid hN
  have HO := Lib.hid hO
  have HM := Lib.hid hM
  have HM' := Lib.hid hM'
  have HI := Lib.hid hI
  clear hN hO hM hM' hI hm hi en0 en1 en2 en3 eo0 eo1 eo2 eo3
  have g2 : decide (i0 < i2) = true := decide_eq_true j0
  have g3 : decide (i1 < i3) = true := decide_eq_true j1
  have er := neq_rect_same m0 m1 m2 m3
  have g0 : decide (m2 ≤ m0) = false := decide_eq_false (by omega)
  have g1 : decide (m3 ≤ m1) = false := decide_eq_false (by omega)
  go_enter Try.func6, Try.ntmps6
  go_wp2_with fail
  refine (awake2_any _).mono ?_
  rintro e w1 ⟨rfl, k1⟩
  have HR1 := Lib.hid (((Blk.fresh w #[.int .i64 a, .int .i64 b, .int .i64 c, .int .i64 d] 26).alloc _).kept k1)
  have HS1 := Lib.hid ((Blk.fresh' (b := w.heap.size + 1) #[.int .i64 p, .int .i64 q, .int .i64 r, .int .i64 s] 26 (by simp)).kept k1)
  have HK1 := Lib.hid ((((Kept.refl w).allocO _).allocO _).trans k1)
  clear k1
  obtain ⟨r0, r1, r2, r3⟩ := HR1.out.cells4
  obtain ⟨s0, s1, s2, s3⟩ := HS1.out.cells4
  go_wp2_with fail
  refine (HM.out _).mono ?_
  rintro e w2 ⟨rfl, k2⟩
  have HR2 := Lib.hid (HR1.out.kept k2)
  have HS2 := Lib.hid (HS1.out.kept k2)
  have HK2 := Lib.hid (HK1.out.trans k2)
  clear k2 r0 r1 r2 r3 s0 s1 s2 s3
  obtain ⟨r0, r1, r2, r3⟩ := HR2.out.cells4
  obtain ⟨s0, s1, s2, s3⟩ := HS2.out.cells4
  have rz := HR2.out.lt
  have sz := HS2.out.lt
  go_wp2_with fail
  refine (HM'.out _).mono ?_
  rintro e w3 ⟨rfl, k3⟩
  have HR3 := Lib.hid ((HR2.out.alloc _).kept k3)
  have HS3 := Lib.hid ((HS2.out.alloc _).kept k3)
  have HA3 := Lib.hid ((Blk.fresh w2 #[.int .i64 m0, .int .i64 m1, .int .i64 m2, .int .i64 m3] 26).kept k3)
  have HK3 := Lib.hid ((HK2.out.allocO _).trans k3)
  clear k3 r0 r1 r2 r3 s0 s1 s2 s3 rz sz
  obtain ⟨r0, r1, r2, r3⟩ := HR3.out.cells4
  have rz := HR3.out.lt
  go_wp2_with fail
  refine (HI.out _).mono ?_
  rintro e w4 ⟨rfl, k4⟩
  have HA4 := Lib.hid ((HA3.out.alloc _).kept k4)
  have HB4 := Lib.hid ((Blk.fresh w3 #[.int .i64 m0, .int .i64 m1, .int .i64 m2, .int .i64 m3] 26).kept k4)
  have HX := Lib.hid (show MeetsIn a b c d p q r s m0 m1 m2 m3 i0 i1 i2 i3 w2.heap.size w4.heap.size w (w4.alloc (.cells #[.int .i64 i0, .int .i64 i1, .int .i64 i2, .int .i64 i3] 26)) from ⟨((HK3.out.allocO _).trans k4).allocO _, ((HR3.out.alloc _).kept k4).alloc _, ((HS3.out.alloc _).kept k4).alloc _, HA4.out.alloc _, Blk.fresh w4 _ _⟩)
  clear k4 r0 r1 r2 r3 rz
  obtain ⟨a0, a1, a2, a3⟩ := HA4.out.cells4
  obtain ⟨b0, b1, b2, b3⟩ := HB4.out.cells4
  have az := HA4.out.lt
  have bz := HB4.out.lt
  go_wp2_with fail
  go_region_held3 (fun w' => w'.cell? ⟨w.heap.size, 0, none⟩ = some (.int .i64 a) ∧ w'.cell? ⟨w.heap.size, 1, none⟩ = some (.int .i64 b) ∧ w'.cell? ⟨w.heap.size, 2, none⟩ = some (.int .i64 c) ∧ w'.cell? ⟨w.heap.size, 3, none⟩ = some (.int .i64 d) ∧ w'.cell? ⟨w.heap.size + 1, 0, none⟩ = some (.int .i64 p) ∧ w'.cell? ⟨w.heap.size + 1, 1, none⟩ = some (.int .i64 q) ∧ w'.cell? ⟨w.heap.size + 1, 2, none⟩ = some (.int .i64 r) ∧ w'.cell? ⟨w.heap.size + 1, 3, none⟩ = some (.int .i64 s) ∧ w'.cell? ⟨w2.heap.size, 0, none⟩ = some (.int .i64 m0) ∧ w'.cell? ⟨w2.heap.size, 1, none⟩ = some (.int .i64 m1) ∧ w'.cell? ⟨w2.heap.size, 2, none⟩ = some (.int .i64 m2) ∧ w'.cell? ⟨w2.heap.size, 3, none⟩ = some (.int .i64 m3) ∧ w'.cell? ⟨w4.heap.size, 0, none⟩ = some (.int .i64 i0) ∧ w'.cell? ⟨w4.heap.size, 1, none⟩ = some (.int .i64 i1) ∧ w'.cell? ⟨w4.heap.size, 2, none⟩ = some (.int .i64 i2) ∧ w'.cell? ⟨w4.heap.size, 3, none⟩ = some (.int .i64 i3)) (first | with_reducible exact MeetsIn.cells HX.out | with_reducible exact MeetsIn.cells HX.out.drew)
    (first
      | (go_at_call_of 27 (Value.agg #[.int .i64 a, .int .i64 b, .int .i64 c, .int .i64 d]); refine (HN.out _).mono ?_; rintro e wn ⟨rfl, kn⟩; (first | (with_reducible have HX := Lib.hid (MeetsIn.kept HX.out kn)) | (with_reducible have HX := Lib.hid (MeetsIn.kept HX.out.drew kn))))
      | (go_at_call_of 27 (Value.agg #[.int .i64 p, .int .i64 q, .int .i64 r, .int .i64 s]); refine (HO.out _).mono ?_; rintro e wn ⟨rfl, kn⟩; (first | (with_reducible have HX := Lib.hid (MeetsIn.kept HX.out kn)) | (with_reducible have HX := Lib.hid (MeetsIn.kept HX.out.drew kn))))
      | (go_at_call 31; refine (within_yes _ _ _ _ _ _ _ _ _ (by omega) (by omega) (by omega) (by omega)).mono ?_; rintro e wn ⟨rfl, kn⟩; (first | (with_reducible have HX := Lib.hid (MeetsIn.kept HX.out kn)) | (with_reducible have HX := Lib.hid (MeetsIn.kept HX.out.drew kn)))))
  go_wp2_with fail
  go_region_held3 (fun w' => w'.cell? ⟨w.heap.size, 0, none⟩ = some (.int .i64 a) ∧ w'.cell? ⟨w.heap.size, 1, none⟩ = some (.int .i64 b) ∧ w'.cell? ⟨w.heap.size, 2, none⟩ = some (.int .i64 c) ∧ w'.cell? ⟨w.heap.size, 3, none⟩ = some (.int .i64 d) ∧ w'.cell? ⟨w.heap.size + 1, 0, none⟩ = some (.int .i64 p) ∧ w'.cell? ⟨w.heap.size + 1, 1, none⟩ = some (.int .i64 q) ∧ w'.cell? ⟨w.heap.size + 1, 2, none⟩ = some (.int .i64 r) ∧ w'.cell? ⟨w.heap.size + 1, 3, none⟩ = some (.int .i64 s) ∧ w'.cell? ⟨w2.heap.size, 0, none⟩ = some (.int .i64 m0) ∧ w'.cell? ⟨w2.heap.size, 1, none⟩ = some (.int .i64 m1) ∧ w'.cell? ⟨w2.heap.size, 2, none⟩ = some (.int .i64 m2) ∧ w'.cell? ⟨w2.heap.size, 3, none⟩ = some (.int .i64 m3) ∧ w'.cell? ⟨w4.heap.size, 0, none⟩ = some (.int .i64 i0) ∧ w'.cell? ⟨w4.heap.size, 1, none⟩ = some (.int .i64 i1) ∧ w'.cell? ⟨w4.heap.size, 2, none⟩ = some (.int .i64 i2) ∧ w'.cell? ⟨w4.heap.size, 3, none⟩ = some (.int .i64 i3)) (first | with_reducible exact MeetsIn.cells HX.out | with_reducible exact MeetsIn.cells HX.out.drew)
    (first
      | (go_at_call_of 27 (Value.agg #[.int .i64 a, .int .i64 b, .int .i64 c, .int .i64 d]); refine (HN.out _).mono ?_; rintro e wn ⟨rfl, kn⟩; (first | (with_reducible have HX := Lib.hid (MeetsIn.kept HX.out kn)) | (with_reducible have HX := Lib.hid (MeetsIn.kept HX.out.drew kn))))
      | (go_at_call_of 27 (Value.agg #[.int .i64 p, .int .i64 q, .int .i64 r, .int .i64 s]); refine (HO.out _).mono ?_; rintro e wn ⟨rfl, kn⟩; (first | (with_reducible have HX := Lib.hid (MeetsIn.kept HX.out kn)) | (with_reducible have HX := Lib.hid (MeetsIn.kept HX.out.drew kn))))
      | (go_at_call 31; refine (within_yes _ _ _ _ _ _ _ _ _ (by omega) (by omega) (by omega) (by omega)).mono ?_; rintro e wn ⟨rfl, kn⟩; (first | (with_reducible have HX := Lib.hid (MeetsIn.kept HX.out kn)) | (with_reducible have HX := Lib.hid (MeetsIn.kept HX.out.drew kn)))))
  go_wp2_with fail
  go_ret
  exact ⟨rfl, HX.out.1⟩

set_option maxHeartbeats 8000000 in
theorem GeomMeets_B (a b c d p q r s h : Int) (w : World) (hm : Gm.insB (max (min a c) (min p r)) (max (min b d) (min q s)) (min (max a c) (max p r)) (min (max b d) (max q s)) = true) (hi : Gm.setB a b c d (max h 0) = false) :
    Calls Try.prog 6 #[.agg #[.int .i64 a, .int .i64 b, .int .i64 c, .int .i64 d], .agg #[.int .i64 p, .int .i64 q, .int .i64 r, .int .i64 s], .int .i64 h] w fun e w' => e = .returned (.bool true) ∧ Kept w w' := by
  obtain ⟨n0, n1, n2, n3, hN, -, -, en0, en1, en2, en3⟩ := norm_let a b c d
  obtain ⟨o0, o1, o2, o3, hO, -, -, eo0, eo1, eo2, eo3⟩ := norm_let p q r s
  obtain ⟨m0, m1, m2, m3, hM, hM', l0, l1, l2, l3, l4, l5, l6, l7, l8, l9⟩ := meet_let a b c d p q r s hm
  rw [← en0] at l2
  rw [← en1] at l3
  rw [← en2] at l4
  rw [← en3] at l5
  rw [← eo0] at l6
  rw [← eo1] at l7
  rw [← eo2] at l8
  rw [← eo3] at l9
  have hI := fun w => Inset_no a b c d (max h 0) w hi
  have HN := Lib.hid hN
  have HO := Lib.hid hO
  have HM := Lib.hid hM
  have HM' := Lib.hid hM'
  have HI := Lib.hid hI
  clear hN hO hM hM' hI hm hi en0 en1 en2 en3 eo0 eo1 eo2 eo3
  have er := neq_rect_same m0 m1 m2 m3
  have g0 : decide (m2 ≤ m0) = false := decide_eq_false (by omega)
  have g1 : decide (m3 ≤ m1) = false := decide_eq_false (by omega)
  go_enter Try.func6, Try.ntmps6
  go_wp2_with fail
  refine (awake2_any _).mono ?_
  rintro e w1 ⟨rfl, k1⟩
  have HR1 := Lib.hid (((Blk.fresh w #[.int .i64 a, .int .i64 b, .int .i64 c, .int .i64 d] 26).alloc _).kept k1)
  have HS1 := Lib.hid ((Blk.fresh' (b := w.heap.size + 1) #[.int .i64 p, .int .i64 q, .int .i64 r, .int .i64 s] 26 (by simp)).kept k1)
  have HK1 := Lib.hid ((((Kept.refl w).allocO _).allocO _).trans k1)
  clear k1
  obtain ⟨r0, r1, r2, r3⟩ := HR1.out.cells4
  obtain ⟨s0, s1, s2, s3⟩ := HS1.out.cells4
  go_wp2_with fail
  refine (HM.out _).mono ?_
  rintro e w2 ⟨rfl, k2⟩
  have HR2 := Lib.hid (HR1.out.kept k2)
  have HS2 := Lib.hid (HS1.out.kept k2)
  have HK2 := Lib.hid (HK1.out.trans k2)
  clear k2 r0 r1 r2 r3 s0 s1 s2 s3
  obtain ⟨r0, r1, r2, r3⟩ := HR2.out.cells4
  obtain ⟨s0, s1, s2, s3⟩ := HS2.out.cells4
  have rz := HR2.out.lt
  have sz := HS2.out.lt
  go_wp2_with fail
  refine (HM'.out _).mono ?_
  rintro e w3 ⟨rfl, k3⟩
  have HR3 := Lib.hid ((HR2.out.alloc _).kept k3)
  have HS3 := Lib.hid ((HS2.out.alloc _).kept k3)
  have HA3 := Lib.hid ((Blk.fresh w2 #[.int .i64 m0, .int .i64 m1, .int .i64 m2, .int .i64 m3] 26).kept k3)
  have HK3 := Lib.hid ((HK2.out.allocO _).trans k3)
  clear k3 r0 r1 r2 r3 s0 s1 s2 s3 rz sz
  obtain ⟨r0, r1, r2, r3⟩ := HR3.out.cells4
  have rz := HR3.out.lt
  go_wp2_with fail
  refine (HI.out _).mono ?_
  rintro e w4 ⟨rfl, k4⟩
  have HA4 := Lib.hid ((HA3.out.alloc _).kept k4)
  have HB4 := Lib.hid ((Blk.fresh w3 #[.int .i64 m0, .int .i64 m1, .int .i64 m2, .int .i64 m3] 26).kept k4)
  have HX := Lib.hid (show MeetsIn a b c d p q r s m0 m1 m2 m3 0 0 0 0 w2.heap.size w4.heap.size w (w4.alloc (.cells #[.int .i64 0, .int .i64 0, .int .i64 0, .int .i64 0] 26)) from ⟨((HK3.out.allocO _).trans k4).allocO _, ((HR3.out.alloc _).kept k4).alloc _, ((HS3.out.alloc _).kept k4).alloc _, HA4.out.alloc _, Blk.fresh w4 _ _⟩)
  clear k4 r0 r1 r2 r3 rz
  obtain ⟨a0, a1, a2, a3⟩ := HA4.out.cells4
  obtain ⟨b0, b1, b2, b3⟩ := HB4.out.cells4
  have az := HA4.out.lt
  have bz := HB4.out.lt
  go_wp2_with fail
  go_region_held3 (fun w' => w'.cell? ⟨w.heap.size, 0, none⟩ = some (.int .i64 a) ∧ w'.cell? ⟨w.heap.size, 1, none⟩ = some (.int .i64 b) ∧ w'.cell? ⟨w.heap.size, 2, none⟩ = some (.int .i64 c) ∧ w'.cell? ⟨w.heap.size, 3, none⟩ = some (.int .i64 d) ∧ w'.cell? ⟨w.heap.size + 1, 0, none⟩ = some (.int .i64 p) ∧ w'.cell? ⟨w.heap.size + 1, 1, none⟩ = some (.int .i64 q) ∧ w'.cell? ⟨w.heap.size + 1, 2, none⟩ = some (.int .i64 r) ∧ w'.cell? ⟨w.heap.size + 1, 3, none⟩ = some (.int .i64 s) ∧ w'.cell? ⟨w2.heap.size, 0, none⟩ = some (.int .i64 m0) ∧ w'.cell? ⟨w2.heap.size, 1, none⟩ = some (.int .i64 m1) ∧ w'.cell? ⟨w2.heap.size, 2, none⟩ = some (.int .i64 m2) ∧ w'.cell? ⟨w2.heap.size, 3, none⟩ = some (.int .i64 m3) ∧ w'.cell? ⟨w4.heap.size, 0, none⟩ = some (.int .i64 0) ∧ w'.cell? ⟨w4.heap.size, 1, none⟩ = some (.int .i64 0) ∧ w'.cell? ⟨w4.heap.size, 2, none⟩ = some (.int .i64 0) ∧ w'.cell? ⟨w4.heap.size, 3, none⟩ = some (.int .i64 0)) (first | with_reducible exact MeetsIn.cells HX.out | with_reducible exact MeetsIn.cells HX.out.drew)
    (first
      | (go_at_call_of 27 (Value.agg #[.int .i64 a, .int .i64 b, .int .i64 c, .int .i64 d]); refine (HN.out _).mono ?_; rintro e wn ⟨rfl, kn⟩; (first | (with_reducible have HX := Lib.hid (MeetsIn.kept HX.out kn)) | (with_reducible have HX := Lib.hid (MeetsIn.kept HX.out.drew kn))))
      | (go_at_call_of 27 (Value.agg #[.int .i64 p, .int .i64 q, .int .i64 r, .int .i64 s]); refine (HO.out _).mono ?_; rintro e wn ⟨rfl, kn⟩; (first | (with_reducible have HX := Lib.hid (MeetsIn.kept HX.out kn)) | (with_reducible have HX := Lib.hid (MeetsIn.kept HX.out.drew kn))))
      | (go_at_call 31; refine (within_yes _ _ _ _ _ _ _ _ _ (by omega) (by omega) (by omega) (by omega)).mono ?_; rintro e wn ⟨rfl, kn⟩; (first | (with_reducible have HX := Lib.hid (MeetsIn.kept HX.out kn)) | (with_reducible have HX := Lib.hid (MeetsIn.kept HX.out.drew kn)))))
  go_wp2_with fail
  go_quiet (fail)
  go_wp2_with fail
  go_ret
  exact ⟨rfl, HX.out.1.drewN _⟩

set_option maxHeartbeats 8000000 in
theorem GeomMeets_C (a b c d p q r s h : Int) (w : World) (hm : Gm.insB (max (min a c) (min p r)) (max (min b d) (min q s)) (min (max a c) (max p r)) (min (max b d) (max q s)) = false) (hi : Gm.setB a b c d (max h 0) = true) :
    Calls Try.prog 6 #[.agg #[.int .i64 a, .int .i64 b, .int .i64 c, .int .i64 d], .agg #[.int .i64 p, .int .i64 q, .int .i64 r, .int .i64 s], .int .i64 h] w fun e w' => e = .returned (.bool true) ∧ Kept w w' := by
  obtain ⟨n0, n1, n2, n3, hN, -, -, en0, en1, en2, en3⟩ := norm_let a b c d
  obtain ⟨o0, o1, o2, o3, hO, -, -, eo0, eo1, eo2, eo3⟩ := norm_let p q r s
  obtain ⟨hM, hM'⟩ := meet_none a b c d p q r s hm
  obtain ⟨i0, i1, i2, i3, hI, j0, j1, j2, j3, j4, j5⟩ := inset_let a b c d h hi
  rw [← en0] at j2
  rw [← en1] at j3
  rw [← en2] at j4
  rw [← en3] at j5
  have HN := Lib.hid hN
  have HO := Lib.hid hO
  have HM := Lib.hid hM
  have HM' := Lib.hid hM'
  have HI := Lib.hid hI
  clear hN hO hM hM' hI hm hi en0 en1 en2 en3 eo0 eo1 eo2 eo3
  have g2 : decide (i0 < i2) = true := decide_eq_true j0
  have g3 : decide (i1 < i3) = true := decide_eq_true j1
  have er := neq_rect_same 0 0 0 0
  go_enter Try.func6, Try.ntmps6
  go_wp2_with fail
  refine (awake2_any _).mono ?_
  rintro e w1 ⟨rfl, k1⟩
  have HR1 := Lib.hid (((Blk.fresh w #[.int .i64 a, .int .i64 b, .int .i64 c, .int .i64 d] 26).alloc _).kept k1)
  have HS1 := Lib.hid ((Blk.fresh' (b := w.heap.size + 1) #[.int .i64 p, .int .i64 q, .int .i64 r, .int .i64 s] 26 (by simp)).kept k1)
  have HK1 := Lib.hid ((((Kept.refl w).allocO _).allocO _).trans k1)
  clear k1
  obtain ⟨r0, r1, r2, r3⟩ := HR1.out.cells4
  obtain ⟨s0, s1, s2, s3⟩ := HS1.out.cells4
  go_wp2_with fail
  refine (HM.out _).mono ?_
  rintro e w2 ⟨rfl, k2⟩
  have HR2 := Lib.hid (HR1.out.kept k2)
  have HS2 := Lib.hid (HS1.out.kept k2)
  have HK2 := Lib.hid (HK1.out.trans k2)
  clear k2 r0 r1 r2 r3 s0 s1 s2 s3
  obtain ⟨r0, r1, r2, r3⟩ := HR2.out.cells4
  obtain ⟨s0, s1, s2, s3⟩ := HS2.out.cells4
  have rz := HR2.out.lt
  have sz := HS2.out.lt
  go_wp2_with fail
  refine (HM'.out _).mono ?_
  rintro e w3 ⟨rfl, k3⟩
  have HR3 := Lib.hid ((HR2.out.alloc _).kept k3)
  have HS3 := Lib.hid ((HS2.out.alloc _).kept k3)
  have HA3 := Lib.hid ((Blk.fresh w2 #[.int .i64 0, .int .i64 0, .int .i64 0, .int .i64 0] 26).kept k3)
  have HK3 := Lib.hid ((HK2.out.allocO _).trans k3)
  clear k3 r0 r1 r2 r3 s0 s1 s2 s3 rz sz
  obtain ⟨r0, r1, r2, r3⟩ := HR3.out.cells4
  have rz := HR3.out.lt
  go_wp2_with fail
  refine (HI.out _).mono ?_
  rintro e w4 ⟨rfl, k4⟩
  have HA4 := Lib.hid ((HA3.out.alloc _).kept k4)
  have HB4 := Lib.hid ((Blk.fresh w3 #[.int .i64 0, .int .i64 0, .int .i64 0, .int .i64 0] 26).kept k4)
  have HX := Lib.hid (show MeetsIn a b c d p q r s 0 0 0 0 i0 i1 i2 i3 w2.heap.size w4.heap.size w (w4.alloc (.cells #[.int .i64 i0, .int .i64 i1, .int .i64 i2, .int .i64 i3] 26)) from ⟨((HK3.out.allocO _).trans k4).allocO _, ((HR3.out.alloc _).kept k4).alloc _, ((HS3.out.alloc _).kept k4).alloc _, HA4.out.alloc _, Blk.fresh w4 _ _⟩)
  clear k4 r0 r1 r2 r3 rz
  obtain ⟨a0, a1, a2, a3⟩ := HA4.out.cells4
  obtain ⟨b0, b1, b2, b3⟩ := HB4.out.cells4
  have az := HA4.out.lt
  have bz := HB4.out.lt
  go_wp2_with fail
  go_quiet (fail)
  go_wp2_with fail
  go_region_held3 (fun w' => w'.cell? ⟨w.heap.size, 0, none⟩ = some (.int .i64 a) ∧ w'.cell? ⟨w.heap.size, 1, none⟩ = some (.int .i64 b) ∧ w'.cell? ⟨w.heap.size, 2, none⟩ = some (.int .i64 c) ∧ w'.cell? ⟨w.heap.size, 3, none⟩ = some (.int .i64 d) ∧ w'.cell? ⟨w.heap.size + 1, 0, none⟩ = some (.int .i64 p) ∧ w'.cell? ⟨w.heap.size + 1, 1, none⟩ = some (.int .i64 q) ∧ w'.cell? ⟨w.heap.size + 1, 2, none⟩ = some (.int .i64 r) ∧ w'.cell? ⟨w.heap.size + 1, 3, none⟩ = some (.int .i64 s) ∧ w'.cell? ⟨w2.heap.size, 0, none⟩ = some (.int .i64 0) ∧ w'.cell? ⟨w2.heap.size, 1, none⟩ = some (.int .i64 0) ∧ w'.cell? ⟨w2.heap.size, 2, none⟩ = some (.int .i64 0) ∧ w'.cell? ⟨w2.heap.size, 3, none⟩ = some (.int .i64 0) ∧ w'.cell? ⟨w4.heap.size, 0, none⟩ = some (.int .i64 i0) ∧ w'.cell? ⟨w4.heap.size, 1, none⟩ = some (.int .i64 i1) ∧ w'.cell? ⟨w4.heap.size, 2, none⟩ = some (.int .i64 i2) ∧ w'.cell? ⟨w4.heap.size, 3, none⟩ = some (.int .i64 i3)) (first | with_reducible exact MeetsIn.cells HX.out | with_reducible exact MeetsIn.cells HX.out.drew | with_reducible exact MeetsIn.cells (MeetsIn.drew (MeetsIn.drewN HX.out _)) | with_reducible exact MeetsIn.cells (MeetsIn.drewN HX.out _))
    (first
      | (go_at_call_of 27 (Value.agg #[.int .i64 a, .int .i64 b, .int .i64 c, .int .i64 d]); refine (HN.out _).mono ?_; rintro e wn ⟨rfl, kn⟩; (first | (with_reducible have HX := Lib.hid (MeetsIn.kept HX.out kn)) | (with_reducible have HX := Lib.hid (MeetsIn.kept HX.out.drew kn)) | (with_reducible have HX := Lib.hid (MeetsIn.kept (MeetsIn.drew (MeetsIn.drewN HX.out _)) kn)) | (with_reducible have HX := Lib.hid (MeetsIn.kept (MeetsIn.drewN HX.out _) kn))))
      | (go_at_call_of 27 (Value.agg #[.int .i64 p, .int .i64 q, .int .i64 r, .int .i64 s]); refine (HO.out _).mono ?_; rintro e wn ⟨rfl, kn⟩; (first | (with_reducible have HX := Lib.hid (MeetsIn.kept HX.out kn)) | (with_reducible have HX := Lib.hid (MeetsIn.kept HX.out.drew kn)) | (with_reducible have HX := Lib.hid (MeetsIn.kept (MeetsIn.drew (MeetsIn.drewN HX.out _)) kn)) | (with_reducible have HX := Lib.hid (MeetsIn.kept (MeetsIn.drewN HX.out _) kn))))
      | (go_at_call 31; refine (within_yes _ _ _ _ _ _ _ _ _ (by omega) (by omega) (by omega) (by omega)).mono ?_; rintro e wn ⟨rfl, kn⟩; (first | (with_reducible have HX := Lib.hid (MeetsIn.kept HX.out kn)) | (with_reducible have HX := Lib.hid (MeetsIn.kept HX.out.drew kn)) | (with_reducible have HX := Lib.hid (MeetsIn.kept (MeetsIn.drew (MeetsIn.drewN HX.out _)) kn)) | (with_reducible have HX := Lib.hid (MeetsIn.kept (MeetsIn.drewN HX.out _) kn)))))
  go_wp2_with fail
  go_ret
  exact ⟨rfl, HX.out.1⟩

set_option maxHeartbeats 8000000 in
theorem GeomMeets_D (a b c d p q r s h : Int) (w : World) (hm : Gm.insB (max (min a c) (min p r)) (max (min b d) (min q s)) (min (max a c) (max p r)) (min (max b d) (max q s)) = false) (hi : Gm.setB a b c d (max h 0) = false) :
    Calls Try.prog 6 #[.agg #[.int .i64 a, .int .i64 b, .int .i64 c, .int .i64 d], .agg #[.int .i64 p, .int .i64 q, .int .i64 r, .int .i64 s], .int .i64 h] w fun e w' => e = .returned (.bool true) ∧ Kept w w' := by
  obtain ⟨n0, n1, n2, n3, hN, -, -, en0, en1, en2, en3⟩ := norm_let a b c d
  obtain ⟨o0, o1, o2, o3, hO, -, -, eo0, eo1, eo2, eo3⟩ := norm_let p q r s
  obtain ⟨hM, hM'⟩ := meet_none a b c d p q r s hm
  have hI := fun w => Inset_no a b c d (max h 0) w hi
  have HN := Lib.hid hN
  have HO := Lib.hid hO
  have HM := Lib.hid hM
  have HM' := Lib.hid hM'
  have HI := Lib.hid hI
  clear hN hO hM hM' hI hm hi en0 en1 en2 en3 eo0 eo1 eo2 eo3
  have er := neq_rect_same 0 0 0 0
  go_enter Try.func6, Try.ntmps6
  go_wp2_with fail
  refine (awake2_any _).mono ?_
  rintro e w1 ⟨rfl, k1⟩
  have HR1 := Lib.hid (((Blk.fresh w #[.int .i64 a, .int .i64 b, .int .i64 c, .int .i64 d] 26).alloc _).kept k1)
  have HS1 := Lib.hid ((Blk.fresh' (b := w.heap.size + 1) #[.int .i64 p, .int .i64 q, .int .i64 r, .int .i64 s] 26 (by simp)).kept k1)
  have HK1 := Lib.hid ((((Kept.refl w).allocO _).allocO _).trans k1)
  clear k1
  obtain ⟨r0, r1, r2, r3⟩ := HR1.out.cells4
  obtain ⟨s0, s1, s2, s3⟩ := HS1.out.cells4
  go_wp2_with fail
  refine (HM.out _).mono ?_
  rintro e w2 ⟨rfl, k2⟩
  have HR2 := Lib.hid (HR1.out.kept k2)
  have HS2 := Lib.hid (HS1.out.kept k2)
  have HK2 := Lib.hid (HK1.out.trans k2)
  clear k2 r0 r1 r2 r3 s0 s1 s2 s3
  obtain ⟨r0, r1, r2, r3⟩ := HR2.out.cells4
  obtain ⟨s0, s1, s2, s3⟩ := HS2.out.cells4
  have rz := HR2.out.lt
  have sz := HS2.out.lt
  go_wp2_with fail
  refine (HM'.out _).mono ?_
  rintro e w3 ⟨rfl, k3⟩
  have HR3 := Lib.hid ((HR2.out.alloc _).kept k3)
  have HS3 := Lib.hid ((HS2.out.alloc _).kept k3)
  have HA3 := Lib.hid ((Blk.fresh w2 #[.int .i64 0, .int .i64 0, .int .i64 0, .int .i64 0] 26).kept k3)
  have HK3 := Lib.hid ((HK2.out.allocO _).trans k3)
  clear k3 r0 r1 r2 r3 s0 s1 s2 s3 rz sz
  obtain ⟨r0, r1, r2, r3⟩ := HR3.out.cells4
  have rz := HR3.out.lt
  go_wp2_with fail
  refine (HI.out _).mono ?_
  rintro e w4 ⟨rfl, k4⟩
  have HA4 := Lib.hid ((HA3.out.alloc _).kept k4)
  have HB4 := Lib.hid ((Blk.fresh w3 #[.int .i64 0, .int .i64 0, .int .i64 0, .int .i64 0] 26).kept k4)
  have HX := Lib.hid (show MeetsIn a b c d p q r s 0 0 0 0 0 0 0 0 w2.heap.size w4.heap.size w (w4.alloc (.cells #[.int .i64 0, .int .i64 0, .int .i64 0, .int .i64 0] 26)) from ⟨((HK3.out.allocO _).trans k4).allocO _, ((HR3.out.alloc _).kept k4).alloc _, ((HS3.out.alloc _).kept k4).alloc _, HA4.out.alloc _, Blk.fresh w4 _ _⟩)
  clear k4 r0 r1 r2 r3 rz
  obtain ⟨a0, a1, a2, a3⟩ := HA4.out.cells4
  obtain ⟨b0, b1, b2, b3⟩ := HB4.out.cells4
  have az := HA4.out.lt
  have bz := HB4.out.lt
  go_wp2_with fail
  go_quiet (fail)
  go_wp2_with fail
  go_quiet (fail)
  go_wp2_with fail
  go_ret
  first | exact ⟨rfl, (HX.out.1.drewN _).drewN _⟩ | exact ⟨rfl, HX.out.1.drewN _⟩

theorem GeomMeets_walk (a b c d p q r s h : Int) (w : World) :
    Calls Try.prog 6 #[.agg #[.int .i64 a, .int .i64 b, .int .i64 c, .int .i64 d], .agg #[.int .i64 p, .int .i64 q, .int .i64 r, .int .i64 s], .int .i64 h] w fun e w' => e = .returned (.bool true) ∧ Kept w w' := by
  cases hm : Gm.insB (max (min a c) (min p r)) (max (min b d) (min q s)) (min (max a c) (max p r)) (min (max b d) (max q s))
  · cases hi : Gm.setB a b c d (max h 0)
    · exact GeomMeets_D a b c d p q r s h w hm hi
    · exact GeomMeets_C a b c d p q r s h w hm hi
  · cases hi : Gm.setB a b c d (max h 0)
    · exact GeomMeets_B a b c d p q r s h w hm hi
    · exact GeomMeets_A a b c d p q r s h w hm hi

end Go.Proofs.Ytbckjejflbfjlaa
