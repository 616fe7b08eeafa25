/-
  The walk of the law GeomUnit.
-/
import Derived.Test.YtbckjejflbfjlaaGeomAwake
import Derived.Test.YtbckjejflbfjlaaGeomShiftsWalk
import Derived.Test.YtbckjejflbfjlaaGeomEqRect
import Derived.Test.YtbckjejflbfjlaaGeomSane
import Derived.Test.YtbckjejflbfjlaaHas
import Derived.Deep.RegionHeld3
import Derived.Deep.DeepCutAuto
namespace Go.Proofs.Ytbckjejflbfjlaa
open Go.RowKit

theorem add_0 {a : Int} (h : Fx.saneB a = true) : Fx.saneB (a + 0) = true := by rw [Int.add_zero]; exact h
theorem Mul_unitR (m0 m1 m2 m3 m4 m5 : Int) (w : World) (s0 : Fx.saneB m0 = true) (s1 : Fx.saneB m1 = true) (s2 : Fx.saneB m2 = true) (s3 : Fx.saneB m3 = true) (s4 : Fx.saneB m4 = true) (s5 : Fx.saneB m5 = true) :
    Calls Try.prog 11 #[.agg #[.int .i64 m0, .int .i64 m1, .int .i64 m2, .int .i64 m3, .int .i64 m4, .int .i64 m5], .agg #[.int .i64 1000, .int .i64 0, .int .i64 0, .int .i64 1000, .int .i64 0, .int .i64 0]] w fun e w' => e = .returned (.tuple #[.agg #[.int .i64 m0, .int .i64 m1, .int .i64 m2, .int .i64 m3, .int .i64 m4, .int .i64 m5], .int .i64 0]) ∧ Kept w w' := by
  have h := GMul_any m0 m1 m2 m3 m4 m5 1000 0 0 1000 0 0 w
  have e0 := Gm.two_r0 s0 s1
  have e1 := Gm.two_r1 s0 s1
  have e2 := Gm.two_r0 s2 s3
  have e3 := Gm.two_r1 s2 s3
  have e4 := Gm.pls_r0 s4 s5 Gm.sane_0 (add_0 s4)
  have e5 := Gm.pls_r1 s4 s5 Gm.sane_0 (add_0 s5)
  rw [Int.add_zero] at e4 e5
  have hm := Gm.mat_ok e0.2 e1.2 e2.2 e3.2 e4.2 e5.2
  rw [hm, e0.1, e1.1, e2.1, e3.1, e4.1, e5.1] at h
  exact h
theorem Mul_unitL (m0 m1 m2 m3 m4 m5 : Int) (w : World) (s0 : Fx.saneB m0 = true) (s1 : Fx.saneB m1 = true) (s2 : Fx.saneB m2 = true) (s3 : Fx.saneB m3 = true) (s4 : Fx.saneB m4 = true) (s5 : Fx.saneB m5 = true) :
    Calls Try.prog 11 #[.agg #[.int .i64 1000, .int .i64 0, .int .i64 0, .int .i64 1000, .int .i64 0, .int .i64 0], .agg #[.int .i64 m0, .int .i64 m1, .int .i64 m2, .int .i64 m3, .int .i64 m4, .int .i64 m5]] w fun e w' => e = .returned (.tuple #[.agg #[.int .i64 m0, .int .i64 m1, .int .i64 m2, .int .i64 m3, .int .i64 m4, .int .i64 m5], .int .i64 0]) ∧ Kept w w' := by
  have h := GMul_any 1000 0 0 1000 0 0 m0 m1 m2 m3 m4 m5 w
  have e0 := Gm.two_l0 s0 s2
  have e1 := Gm.two_l0 s1 s3
  have e2 := Gm.two_l1 s0 s2
  have e3 := Gm.two_l1 s1 s3
  have e4 := Gm.pls_00 s0 s2 s4
  have e5 := Gm.pls_00 s1 s3 s5
  have hm := Gm.mat_ok e0.2 e1.2 e2.2 e3.2 e4.2 e5.2
  rw [hm, e0.1, e1.1, e2.1, e3.1, e4.1, e5.1] at h
  exact h
theorem Apply_unit (x y : Int) (w : World) (hx : Fx.saneB x = true) (hy : Fx.saneB y = true) :
    Calls Try.prog 13 #[.agg #[.int .i64 1000, .int .i64 0, .int .i64 0, .int .i64 1000, .int .i64 0, .int .i64 0], .int .i64 x, .int .i64 y] w fun e w' => e = .returned (.tuple #[.int .i64 x, .int .i64 y, .int .i64 0]) ∧ Kept w w' := by
  have h := Apply_shift 0 0 x y w Gm.sane_0 Gm.sane_0 hx hy (add_0 hx) (add_0 hy)
  rw [Int.add_zero, Int.add_zero] at h
  exact h
theorem sane_min {a b : Int} (ha : Fx.saneB a = true) (hb : Fx.saneB b = true) : Fx.saneB (min a b) = true ∧ Fx.saneB (max a b) = true := by
  have a0 := Fx.sane_lo ha
  have a1 := Fx.sane_hi ha
  have b0 := Fx.sane_lo hb
  have b1 := Fx.sane_hi hb
  exact ⟨Gm.sane_of (by omega) (by omega), Gm.sane_of (by omega) (by omega)⟩
theorem bnd_unit {p q r s : Int} (sp : Fx.saneB p = true) (sq : Fx.saneB q = true) (sr : Fx.saneB r = true) (ss : Fx.saneB s = true) (h : p ≤ r) (h' : q ≤ s) :
    Gm.bndA 1000 0 0 1000 0 0 p q r s = p ∧ Gm.bndB 1000 0 0 1000 0 0 p q r s = q ∧ Gm.bndC 1000 0 0 1000 0 0 p q r s = r ∧ Gm.bndD 1000 0 0 1000 0 0 p q r s = s ∧ Gm.bndE 1000 0 0 1000 0 0 p q r s = 0 := by
  have k : ∀ {x y : Int}, Fx.saneB x = true → Fx.saneB y = true → Gm.appX 1000 0 0 1000 0 0 x y = x ∧ Gm.appY 1000 0 0 1000 0 0 x y = y ∧ Gm.appE 1000 0 0 1000 0 0 x y = 0 := by
    intro x y hx hy
    have := Gm.app_shift (e := 0) (f := 0) Gm.sane_0 Gm.sane_0 hx hy (add_0 hx) (add_0 hy)
    rwa [Int.add_zero, Int.add_zero] at this
  have k0 := k sp sq
  have k1 := k sr sq
  have k2 := k sp ss
  have k3 := k sr ss
  obtain ⟨x, y, z, u, v⟩ := Gm.bnd_ok (m0 := 1000) (m1 := 0) (m2 := 0) (m3 := 1000) (m4 := 0) (m5 := 0) (p := p) (q := q) (r := r) (s := s) ⟨k0.2.2, k1.2.2, k2.2.2, k3.2.2⟩
  rw [k0.1, k1.1, k2.1, k3.1] at x z
  rw [k0.2.1, k1.2.1, k2.2.1, k3.2.1] at y u
  refine ⟨x.trans ?_, y.trans ?_, z.trans ?_, u.trans ?_, v⟩ <;> simp only [Gm.lo, Gm.hi] <;> omega
theorem Bounds_unit (a b c d : Int) (w : World) (ra : Fx.saneB a = true) (rb : Fx.saneB b = true) (rc : Fx.saneB c = true) (rd : Fx.saneB d = true) :
    Calls Try.prog 15 #[.agg #[.int .i64 1000, .int .i64 0, .int .i64 0, .int .i64 1000, .int .i64 0, .int .i64 0], .agg #[.int .i64 a, .int .i64 b, .int .i64 c, .int .i64 d]] w fun e w' => e = .returned (.tuple #[.agg #[.int .i64 (min a c), .int .i64 (min b d), .int .i64 (max a c), .int .i64 (max b d)], .int .i64 0]) ∧ Kept w w' := by
  have h := Bounds_any 1000 0 0 1000 0 0 a b c d w
  obtain ⟨x, y, z, u, v⟩ := bnd_unit (sane_min ra rc).1 (sane_min rb rd).1 (sane_min ra rc).2 (sane_min rb rd).2 (show min a c ≤ max a c by omega) (show min b d ≤ max b d by omega)
  rw [x, y, z, u, v] at h
  exact h

/-- What a statement that makes one block leaves. -/
def Made (cs : Array Value) (t : TypeId) (l : BlkList) (w : World) (g e : Value) (wx : World) : Prop :=
  ∃ k : Nat, g = .pointer (some ⟨k, 0, none⟩) ∧ e = .int .i64 0 ∧ In w ((k, cs, t) :: l) wx
theorem unitS {m0 m1 m2 m3 m4 m5 a b c d : Int} {ka kb kc : Nat} {w wx : World} (h : In w [(kc, #[.int .i64 (min a c), .int .i64 (min b d), .int .i64 (max a c), .int .i64 (max b d)], 26), (kb, #[.int .i64 m0, .int .i64 m1, .int .i64 m2, .int .i64 m3, .int .i64 m4, .int .i64 m5], 24), (ka, #[.int .i64 m0, .int .i64 m1, .int .i64 m2, .int .i64 m3, .int .i64 m4, .int .i64 m5], 24), (w.heap.size + 1, #[.int .i64 a, .int .i64 b, .int .i64 c, .int .i64 d], 26), (w.heap.size, #[.int .i64 m0, .int .i64 m1, .int .i64 m2, .int .i64 m3, .int .i64 m4, .int .i64 m5], 24)] wx) :
    wx.cell? ⟨kc, 0, none⟩ = some (.int .i64 (min a c)) ∧ wx.cell? ⟨kc, 1, none⟩ = some (.int .i64 (min b d)) ∧ wx.cell? ⟨kc, 2, none⟩ = some (.int .i64 (max a c)) ∧ wx.cell? ⟨kc, 3, none⟩ = some (.int .i64 (max b d)) ∧ wx.cell? ⟨kb, 0, none⟩ = some (.int .i64 m0) ∧ wx.cell? ⟨kb, 1, none⟩ = some (.int .i64 m1) ∧ wx.cell? ⟨kb, 2, none⟩ = some (.int .i64 m2) ∧ wx.cell? ⟨kb, 3, none⟩ = some (.int .i64 m3) ∧ wx.cell? ⟨kb, 4, none⟩ = some (.int .i64 m4) ∧ wx.cell? ⟨kb, 5, none⟩ = some (.int .i64 m5) ∧ wx.cell? ⟨ka, 0, none⟩ = some (.int .i64 m0) ∧ wx.cell? ⟨ka, 1, none⟩ = some (.int .i64 m1) ∧ wx.cell? ⟨ka, 2, none⟩ = some (.int .i64 m2) ∧ wx.cell? ⟨ka, 3, none⟩ = some (.int .i64 m3) ∧ wx.cell? ⟨ka, 4, none⟩ = some (.int .i64 m4) ∧ wx.cell? ⟨ka, 5, none⟩ = some (.int .i64 m5) ∧ wx.cell? ⟨w.heap.size + 1, 0, none⟩ = some (.int .i64 a) ∧ wx.cell? ⟨w.heap.size + 1, 1, none⟩ = some (.int .i64 b) ∧ wx.cell? ⟨w.heap.size + 1, 2, none⟩ = some (.int .i64 c) ∧ wx.cell? ⟨w.heap.size + 1, 3, none⟩ = some (.int .i64 d) ∧ wx.cell? ⟨w.heap.size, 0, none⟩ = some (.int .i64 m0) ∧ wx.cell? ⟨w.heap.size, 1, none⟩ = some (.int .i64 m1) ∧ wx.cell? ⟨w.heap.size, 2, none⟩ = some (.int .i64 m2) ∧ wx.cell? ⟨w.heap.size, 3, none⟩ = some (.int .i64 m3) ∧ wx.cell? ⟨w.heap.size, 4, none⟩ = some (.int .i64 m4) ∧ wx.cell? ⟨w.heap.size, 5, none⟩ = some (.int .i64 m5) :=
  have x := (h.mem (List.mem_cons_self)).cells4
  have y := (h.mem (List.mem_cons_of_mem _ (List.mem_cons_self))).cells6
  have z := (h.mem (List.mem_cons_of_mem _ (List.mem_cons_of_mem _ (List.mem_cons_self)))).cells6
  have u := (h.mem (List.mem_cons_of_mem _ (List.mem_cons_of_mem _ (List.mem_cons_of_mem _ (List.mem_cons_self))))).cells4
  have v := (h.mem (List.mem_cons_of_mem _ (List.mem_cons_of_mem _ (List.mem_cons_of_mem _ (List.mem_cons_of_mem _ (List.mem_cons_self)))))).cells6
  ⟨x.1, x.2.1, x.2.2.1, x.2.2.2, y.1, y.2.1, y.2.2.1, y.2.2.2.1, y.2.2.2.2.1, y.2.2.2.2.2, z.1, z.2.1, z.2.2.1, z.2.2.2.1, z.2.2.2.2.1, z.2.2.2.2.2, u.1, u.2.1, u.2.2.1, u.2.2.2, v.1, v.2.1, v.2.2.1, v.2.2.2.1, v.2.2.2.2.1, v.2.2.2.2.2⟩

set_option maxHeartbeats 8000000 in
set_option maxRecDepth 100000 in
theorem GeomUnit_main (m0 m1 m2 m3 m4 m5 a b c d : Int) (w : World) (s0 : Fx.saneB m0 = true) (s1 : Fx.saneB m1 = true) (s2 : Fx.saneB m2 = true) (s3 : Fx.saneB m3 = true) (s4 : Fx.saneB m4 = true) (s5 : Fx.saneB m5 = true) (ra : Fx.saneB a = true) (rb : Fx.saneB b = true) (rc : Fx.saneB c = true) (rd : Fx.saneB d = true) :
    Calls Try.prog 5 #[.agg #[.int .i64 m0, .int .i64 m1, .int .i64 m2, .int .i64 m3, .int .i64 m4, .int .i64 m5], .agg #[.int .i64 a, .int .i64 b, .int .i64 c, .int .i64 d]] w fun e w' => e = .returned (.bool true) ∧ Kept w w' := by
  have em := eql_mat_same m0 m1 m2 m3 m4 m5
  have er := eql_rect_same (min a c) (min b d) (max a c) (max b d)
  go_enter Try.func5, Try.ntmps5
  go_wp2_with fail
  refine (awake2_any _).mono ?_
  rintro e w1 ⟨rfl, k1⟩
  have HX1 := Lib.hid (In.kept (In.fresh' (k := w.heap.size + 1) (In.fresh (In.start w) #[.int .i64 m0, .int .i64 m1, .int .i64 m2, .int .i64 m3, .int .i64 m4, .int .i64 m5] 24) #[.int .i64 a, .int .i64 b, .int .i64 c, .int .i64 d] 26 (by simp)) k1)
  clear k1
  obtain ⟨r0, r1, r2, r3⟩ := (HX1.out.mem (List.mem_cons_self)).cells4
  obtain ⟨q0, q1, q2, q3, q4, q5⟩ := (HX1.out.mem (List.mem_cons_of_mem _ (List.mem_cons_self))).cells6
  go_wp2_with fail
  refine (lsane_6 m0 m1 m2 m3 m4 m5 _ s0 s1 s2 s3 s4 s5).mono ?_
  rintro e wx ⟨rfl, k2⟩
  have HX := Lib.hid (HX1.out.kept k2)
  clear k2 r0 r1 r2 r3 q0 q1 q2 q3 q4 q5 HX1
  obtain ⟨r0, r1, r2, r3⟩ := (HX.out.mem (List.mem_cons_self)).cells4
  go_wp2_with (go_at_call 30; refine (RMay_any _ _).mono ?_; rintro e w' ⟨rfl, rfl⟩)
  clear r0 r1 r2 r3
  go_upto_region 4 with fail
  go_cut [6, 7] (fun g e wx => Made #[.int .i64 m0, .int .i64 m1, .int .i64 m2, .int .i64 m3, .int .i64 m4, .int .i64 m5] 24 [(w.heap.size + 1, #[.int .i64 a, .int .i64 b, .int .i64 c, .int .i64 d], 26), (w.heap.size, #[.int .i64 m0, .int .i64 m1, .int .i64 m2, .int .i64 m3, .int .i64 m4, .int .i64 m5], 24)] w g e wx)
  case first =>
    go_region_held3 (fun w' => w'.cell? ⟨w.heap.size, 0, none⟩ = some (.int .i64 m0) ∧ w'.cell? ⟨w.heap.size, 1, none⟩ = some (.int .i64 m1) ∧ w'.cell? ⟨w.heap.size, 2, none⟩ = some (.int .i64 m2) ∧ w'.cell? ⟨w.heap.size, 3, none⟩ = some (.int .i64 m3) ∧ w'.cell? ⟨w.heap.size, 4, none⟩ = some (.int .i64 m4) ∧ w'.cell? ⟨w.heap.size, 5, none⟩ = some (.int .i64 m5)) (first | with_reducible exact (In.mem (HX.out) (List.mem_cons_of_mem _ (List.mem_cons_self))).cells6 | with_reducible exact (In.mem (HX.out.drew) (List.mem_cons_of_mem _ (List.mem_cons_self))).cells6 | with_reducible exact (In.mem ((HX.out.alloc _).drew) (List.mem_cons_of_mem _ (List.mem_cons_self))).cells6 | with_reducible exact (In.mem (HX2.out) (List.mem_cons_of_mem _ (List.mem_cons_self))).cells6 | with_reducible exact (In.mem ((HX2.out.alloc _)) (List.mem_cons_of_mem _ (List.mem_cons_self))).cells6 | with_reducible exact (In.mem (HX3.out) (List.mem_cons_of_mem _ (List.mem_cons_self))).cells6 | with_reducible exact (In.mem ((HX3.out.alloc _)) (List.mem_cons_of_mem _ (List.mem_cons_self))).cells6 | with_reducible exact (In.mem ((In.tail (In.set6 HX3.out HZ3.out HW.out HN.out _ _ _ _ _ _))) (List.mem_cons_of_mem _ (List.mem_cons_self))).cells6)
      (first
        | (go_at_call 19; refine (Unit_any _).mono ?_; rintro e w2 ⟨rfl, k2⟩; (first | ((with_reducible have HX2 := Lib.hid (In.kept (In.drew (In.alloc HX.out (.cells #[.int .i64 0, .int .i64 0, .int .i64 0, .int .i64 0, .int .i64 0, .int .i64 0] 24 (0, 0)))) k2)); (with_reducible have HZ2 := Lib.hid (Blk.kept (Blk.drew (Blk.fresh _ #[.int .i64 0, .int .i64 0, .int .i64 0, .int .i64 0, .int .i64 0, .int .i64 0] 24)) k2)); have HN2 := Lib.hid HX.out.ne_size; have HW2 := Lib.hid (Below.size HX.out.1)) | (with_reducible have HX2 := Lib.hid (In.kept (In.drew HX.out) k2))))
        | (go_at_call 11; refine (Mul_unitR m0 m1 m2 m3 m4 m5 _ s0 s1 s2 s3 s4 s5).mono ?_; rintro e w3 ⟨rfl, k3⟩; (first
            | ((with_reducible have HZ3 := Lib.hid (Blk.kept (Blk.fresh w2 #[.int .i64 0, .int .i64 0, .int .i64 0, .int .i64 0, .int .i64 0, .int .i64 0] 24) k3)); (with_reducible have HX3 := Lib.hid (In.kept (In.alloc HX2.out _) k3)); have HN := Lib.hid HX2.out.ne_size; have HW := Lib.hid (Below.size HX2.out.1); obtain ⟨y0, y1, y2, y3, y4, y5⟩ := HZ3.out.cells6; have yf := HZ3.out.free)
            | ((with_reducible have HZ3 := Lib.hid (Blk.kept HZ2.out k3)); (with_reducible have HX3 := Lib.hid (In.kept HX2.out k3)); have HN := HN2; have HW := HW2; obtain ⟨y0, y1, y2, y3, y4, y5⟩ := HZ3.out.cells6; have yf := HZ3.out.free)
            | (with_reducible have HX3 := Lib.hid (In.kept HX2.out k3)))))
    all_goals
      go_wp2_with fail
      go_meet
    · exact ⟨_, rfl, rfl, HX3.out.fresh _ _⟩
    · exact ⟨_, rfl, rfl, In.set6 HX3.out HZ3.out HW.out HN.out _ _ _ _ _ _⟩
    · exact ⟨_, rfl, rfl, In.set6 HX3.out HZ3.out HW.out HN.out _ _ _ _ _ _⟩
  case rest =>
  obtain ⟨ka, rfl, rfl, hx⟩ := hcut
  clear HX
  have HX := Lib.hid hx
  clear hx
  go_upto_region 5 with fail
  go_cut [8, 9] (fun g e wx => Made #[.int .i64 m0, .int .i64 m1, .int .i64 m2, .int .i64 m3, .int .i64 m4, .int .i64 m5] 24 [(ka, #[.int .i64 m0, .int .i64 m1, .int .i64 m2, .int .i64 m3, .int .i64 m4, .int .i64 m5], 24), (w.heap.size + 1, #[.int .i64 a, .int .i64 b, .int .i64 c, .int .i64 d], 26), (w.heap.size, #[.int .i64 m0, .int .i64 m1, .int .i64 m2, .int .i64 m3, .int .i64 m4, .int .i64 m5], 24)] w g e wx)
  case first =>
    go_region_held3 (fun w' => w'.cell? ⟨w.heap.size, 0, none⟩ = some (.int .i64 m0) ∧ w'.cell? ⟨w.heap.size, 1, none⟩ = some (.int .i64 m1) ∧ w'.cell? ⟨w.heap.size, 2, none⟩ = some (.int .i64 m2) ∧ w'.cell? ⟨w.heap.size, 3, none⟩ = some (.int .i64 m3) ∧ w'.cell? ⟨w.heap.size, 4, none⟩ = some (.int .i64 m4) ∧ w'.cell? ⟨w.heap.size, 5, none⟩ = some (.int .i64 m5)) (first | with_reducible exact (In.mem (HX.out) (List.mem_cons_of_mem _ (List.mem_cons_of_mem _ (List.mem_cons_self)))).cells6 | with_reducible exact (In.mem (HX.out.drew) (List.mem_cons_of_mem _ (List.mem_cons_of_mem _ (List.mem_cons_self)))).cells6 | with_reducible exact (In.mem ((HX.out.alloc _).drew) (List.mem_cons_of_mem _ (List.mem_cons_of_mem _ (List.mem_cons_self)))).cells6 | with_reducible exact (In.mem (HX2.out) (List.mem_cons_of_mem _ (List.mem_cons_of_mem _ (List.mem_cons_self)))).cells6 | with_reducible exact (In.mem ((HX2.out.alloc _)) (List.mem_cons_of_mem _ (List.mem_cons_of_mem _ (List.mem_cons_self)))).cells6 | with_reducible exact (In.mem (HX3.out) (List.mem_cons_of_mem _ (List.mem_cons_of_mem _ (List.mem_cons_self)))).cells6 | with_reducible exact (In.mem ((HX3.out.alloc _)) (List.mem_cons_of_mem _ (List.mem_cons_of_mem _ (List.mem_cons_self)))).cells6 | with_reducible exact (In.mem ((In.tail (In.set6 HX3.out HZ3.out HW.out HN.out _ _ _ _ _ _))) (List.mem_cons_of_mem _ (List.mem_cons_of_mem _ (List.mem_cons_self)))).cells6)
      (first
        | (go_at_call 19; refine (Unit_any _).mono ?_; rintro e w2 ⟨rfl, k2⟩; (first | ((with_reducible have HX2 := Lib.hid (In.kept (In.drew (In.alloc HX.out (.cells #[.int .i64 0, .int .i64 0, .int .i64 0, .int .i64 0, .int .i64 0, .int .i64 0] 24 (0, 0)))) k2)); (with_reducible have HZ2 := Lib.hid (Blk.kept (Blk.drew (Blk.fresh _ #[.int .i64 0, .int .i64 0, .int .i64 0, .int .i64 0, .int .i64 0, .int .i64 0] 24)) k2)); have HN2 := Lib.hid HX.out.ne_size; have HW2 := Lib.hid (Below.size HX.out.1)) | (with_reducible have HX2 := Lib.hid (In.kept (In.drew HX.out) k2))))
        | (go_at_call 11; refine (Mul_unitL m0 m1 m2 m3 m4 m5 _ s0 s1 s2 s3 s4 s5).mono ?_; rintro e w3 ⟨rfl, k3⟩; (first
            | ((with_reducible have HZ3 := Lib.hid (Blk.kept (Blk.fresh w2 #[.int .i64 0, .int .i64 0, .int .i64 0, .int .i64 0, .int .i64 0, .int .i64 0] 24) k3)); (with_reducible have HX3 := Lib.hid (In.kept (In.alloc HX2.out _) k3)); have HN := Lib.hid HX2.out.ne_size; have HW := Lib.hid (Below.size HX2.out.1); obtain ⟨y0, y1, y2, y3, y4, y5⟩ := HZ3.out.cells6; have yf := HZ3.out.free)
            | ((with_reducible have HZ3 := Lib.hid (Blk.kept HZ2.out k3)); (with_reducible have HX3 := Lib.hid (In.kept HX2.out k3)); have HN := HN2; have HW := HW2; obtain ⟨y0, y1, y2, y3, y4, y5⟩ := HZ3.out.cells6; have yf := HZ3.out.free)
            | (with_reducible have HX3 := Lib.hid (In.kept HX2.out k3)))))
    all_goals
      go_wp2_with fail
      go_meet
    · exact ⟨_, rfl, rfl, HX3.out.fresh _ _⟩
    · exact ⟨_, rfl, rfl, In.set6 HX3.out HZ3.out HW.out HN.out _ _ _ _ _ _⟩
    · exact ⟨_, rfl, rfl, In.set6 HX3.out HZ3.out HW.out HN.out _ _ _ _ _ _⟩
  case rest =>
  obtain ⟨kb, rfl, rfl, hx⟩ := hcut
  clear HX
  have HX := Lib.hid hx
  clear hx
  go_wp2_with fail
  go_region_held3 (fun w' => w'.cell? ⟨w.heap.size + 1, 0, none⟩ = some (.int .i64 a) ∧ w'.cell? ⟨w.heap.size + 1, 1, none⟩ = some (.int .i64 b) ∧ w'.cell? ⟨w.heap.size + 1, 2, none⟩ = some (.int .i64 c) ∧ w'.cell? ⟨w.heap.size + 1, 3, none⟩ = some (.int .i64 d)) (first | with_reducible exact (In.mem (HX.out) (List.mem_cons_of_mem _ (List.mem_cons_of_mem _ (List.mem_cons_self)))).cells4 | with_reducible exact (In.mem (HX.out.drew) (List.mem_cons_of_mem _ (List.mem_cons_of_mem _ (List.mem_cons_self)))).cells4 | with_reducible exact (In.mem (HX2.out) (List.mem_cons_of_mem _ (List.mem_cons_of_mem _ (List.mem_cons_self)))).cells4 | with_reducible exact (In.mem (HX3.out) (List.mem_cons_of_mem _ (List.mem_cons_of_mem _ (List.mem_cons_self)))).cells4)
    (first
      | (go_at_call 19; refine (Unit_any _).mono ?_; rintro e w2 ⟨rfl, k2⟩; with_reducible have HX2 := Lib.hid (In.kept (In.drew HX.out) k2))
      | (go_at_call 13; refine (Apply_unit a d _ ra rd).mono ?_; rintro e w3 ⟨rfl, k3⟩; with_reducible have HX3 := Lib.hid (In.kept HX2.out k3)))
  clear HX HX2
  have HX := HX3
  clear HX3
  go_upto_region 7 with fail
  go_cut [13, 14] (fun g e wx => Made #[.int .i64 (min a c), .int .i64 (min b d), .int .i64 (max a c), .int .i64 (max b d)] 26 [(kb, #[.int .i64 m0, .int .i64 m1, .int .i64 m2, .int .i64 m3, .int .i64 m4, .int .i64 m5], 24), (ka, #[.int .i64 m0, .int .i64 m1, .int .i64 m2, .int .i64 m3, .int .i64 m4, .int .i64 m5], 24), (w.heap.size + 1, #[.int .i64 a, .int .i64 b, .int .i64 c, .int .i64 d], 26), (w.heap.size, #[.int .i64 m0, .int .i64 m1, .int .i64 m2, .int .i64 m3, .int .i64 m4, .int .i64 m5], 24)] w g e wx)
  case first =>
    go_region_held3 (fun w' => w'.cell? ⟨w.heap.size + 1, 0, none⟩ = some (.int .i64 a) ∧ w'.cell? ⟨w.heap.size + 1, 1, none⟩ = some (.int .i64 b) ∧ w'.cell? ⟨w.heap.size + 1, 2, none⟩ = some (.int .i64 c) ∧ w'.cell? ⟨w.heap.size + 1, 3, none⟩ = some (.int .i64 d)) (first | with_reducible exact (In.mem (HX.out) (List.mem_cons_of_mem _ (List.mem_cons_of_mem _ (List.mem_cons_self)))).cells4 | with_reducible exact (In.mem (HX.out.drew) (List.mem_cons_of_mem _ (List.mem_cons_of_mem _ (List.mem_cons_self)))).cells4 | with_reducible exact (In.mem ((HX.out.alloc _).drew) (List.mem_cons_of_mem _ (List.mem_cons_of_mem _ (List.mem_cons_self)))).cells4 | with_reducible exact (In.mem (HX2.out) (List.mem_cons_of_mem _ (List.mem_cons_of_mem _ (List.mem_cons_self)))).cells4 | with_reducible exact (In.mem ((HX2.out.alloc _)) (List.mem_cons_of_mem _ (List.mem_cons_of_mem _ (List.mem_cons_self)))).cells4 | with_reducible exact (In.mem (HX3.out) (List.mem_cons_of_mem _ (List.mem_cons_of_mem _ (List.mem_cons_self)))).cells4 | with_reducible exact (In.mem ((HX3.out.alloc _)) (List.mem_cons_of_mem _ (List.mem_cons_of_mem _ (List.mem_cons_self)))).cells4 | with_reducible exact (In.mem ((In.tail (In.set4 HX3.out HZ3.out HW.out HN.out _ _ _ _))) (List.mem_cons_of_mem _ (List.mem_cons_of_mem _ (List.mem_cons_self)))).cells4)
      (first
        | (go_at_call 19; refine (Unit_any _).mono ?_; rintro e w2 ⟨rfl, k2⟩; (first | ((with_reducible have HX2 := Lib.hid (In.kept (In.drew (In.alloc HX.out (.cells #[.int .i64 0, .int .i64 0, .int .i64 0, .int .i64 0] 26 (0, 0)))) k2)); (with_reducible have HZ2 := Lib.hid (Blk.kept (Blk.drew (Blk.fresh _ #[.int .i64 0, .int .i64 0, .int .i64 0, .int .i64 0] 26)) k2)); have HN2 := Lib.hid HX.out.ne_size; have HW2 := Lib.hid (Below.size HX.out.1)) | (with_reducible have HX2 := Lib.hid (In.kept (In.drew HX.out) k2))))
        | (go_at_call 15; refine (Bounds_unit a b c d _ ra rb rc rd).mono ?_; rintro e w3 ⟨rfl, k3⟩; (first
            | ((with_reducible have HZ3 := Lib.hid (Blk.kept (Blk.fresh w2 #[.int .i64 0, .int .i64 0, .int .i64 0, .int .i64 0] 26) k3)); (with_reducible have HX3 := Lib.hid (In.kept (In.alloc HX2.out _) k3)); have HN := Lib.hid HX2.out.ne_size; have HW := Lib.hid (Below.size HX2.out.1); obtain ⟨y0, y1, y2, y3⟩ := HZ3.out.cells4; have yf := HZ3.out.free)
            | ((with_reducible have HZ3 := Lib.hid (Blk.kept HZ2.out k3)); (with_reducible have HX3 := Lib.hid (In.kept HX2.out k3)); have HN := HN2; have HW := HW2; obtain ⟨y0, y1, y2, y3⟩ := HZ3.out.cells4; have yf := HZ3.out.free)
            | (with_reducible have HX3 := Lib.hid (In.kept HX2.out k3)))))
    all_goals
      go_wp2_with fail
      go_meet
    · exact ⟨_, rfl, rfl, HX3.out.fresh _ _⟩
    · exact ⟨_, rfl, rfl, In.set4 HX3.out HZ3.out HW.out HN.out _ _ _ _⟩
    · exact ⟨_, rfl, rfl, In.set4 HX3.out HZ3.out HW.out HN.out _ _ _ _⟩
  case rest =>
  obtain ⟨kc, rfl, rfl, hx⟩ := hcut
  clear HX
  have HX := Lib.hid hx
  clear hx
  go_wp2_with fail
  go_region_held3 (fun w' => w'.cell? ⟨kc, 0, none⟩ = some (.int .i64 (min a c)) ∧ w'.cell? ⟨kc, 1, none⟩ = some (.int .i64 (min b d)) ∧ w'.cell? ⟨kc, 2, none⟩ = some (.int .i64 (max a c)) ∧ w'.cell? ⟨kc, 3, none⟩ = some (.int .i64 (max b d)) ∧ w'.cell? ⟨kb, 0, none⟩ = some (.int .i64 m0) ∧ w'.cell? ⟨kb, 1, none⟩ = some (.int .i64 m1) ∧ w'.cell? ⟨kb, 2, none⟩ = some (.int .i64 m2) ∧ w'.cell? ⟨kb, 3, none⟩ = some (.int .i64 m3) ∧ w'.cell? ⟨kb, 4, none⟩ = some (.int .i64 m4) ∧ w'.cell? ⟨kb, 5, none⟩ = some (.int .i64 m5) ∧ w'.cell? ⟨ka, 0, none⟩ = some (.int .i64 m0) ∧ w'.cell? ⟨ka, 1, none⟩ = some (.int .i64 m1) ∧ w'.cell? ⟨ka, 2, none⟩ = some (.int .i64 m2) ∧ w'.cell? ⟨ka, 3, none⟩ = some (.int .i64 m3) ∧ w'.cell? ⟨ka, 4, none⟩ = some (.int .i64 m4) ∧ w'.cell? ⟨ka, 5, none⟩ = some (.int .i64 m5) ∧ w'.cell? ⟨w.heap.size + 1, 0, none⟩ = some (.int .i64 a) ∧ w'.cell? ⟨w.heap.size + 1, 1, none⟩ = some (.int .i64 b) ∧ w'.cell? ⟨w.heap.size + 1, 2, none⟩ = some (.int .i64 c) ∧ w'.cell? ⟨w.heap.size + 1, 3, none⟩ = some (.int .i64 d) ∧ w'.cell? ⟨w.heap.size, 0, none⟩ = some (.int .i64 m0) ∧ w'.cell? ⟨w.heap.size, 1, none⟩ = some (.int .i64 m1) ∧ w'.cell? ⟨w.heap.size, 2, none⟩ = some (.int .i64 m2) ∧ w'.cell? ⟨w.heap.size, 3, none⟩ = some (.int .i64 m3) ∧ w'.cell? ⟨w.heap.size, 4, none⟩ = some (.int .i64 m4) ∧ w'.cell? ⟨w.heap.size, 5, none⟩ = some (.int .i64 m5)) (first | with_reducible exact unitS HX.out | with_reducible exact unitS HX.out.drew | with_reducible exact unitS HX2.out)
    (first
      | (go_at_call 27; refine (Norm_any a b c d _).mono ?_; rintro e w2 ⟨rfl, k2⟩; (first | (with_reducible have HX2 := Lib.hid (In.kept HX.out k2)) | (with_reducible have HX2 := Lib.hid (In.kept (In.drew HX.out) k2)))))
  go_wp2_with fail
  go_ret
  exact ⟨rfl, HX2.out.1⟩

end Go.Proofs.Ytbckjejflbfjlaa
