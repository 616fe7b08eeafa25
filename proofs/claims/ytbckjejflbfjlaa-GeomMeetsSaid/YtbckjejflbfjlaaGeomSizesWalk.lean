/-
  The walk of the law GeomSizes.
-/
import Derived.Test.YtbckjejflbfjlaaGeomAwake
import Derived.Test.YtbckjejflbfjlaaGeomSizesMath
import Derived.Test.YtbckjejflbfjlaaGeomEqRect
import Derived.Test.YtbckjejflbfjlaaFixRef
import Derived.Deep.RegionHeld3
namespace Go.Proofs.Ytbckjejflbfjlaa
open Go.RowKit

theorem rectS {a b c d : Int} {k : Nat} {w' : World} (h : Blk w' k #[.int .i64 a, .int .i64 b, .int .i64 c, .int .i64 d] 26) :
    w'.cell? ⟨k, 0, none⟩ = some (.int .i64 a) ∧ w'.cell? ⟨k, 1, none⟩ = some (.int .i64 b) ∧ w'.cell? ⟨k, 2, none⟩ = some (.int .i64 c) ∧ w'.cell? ⟨k, 3, none⟩ = some (.int .i64 d) := h.cells4
theorem Size_turned (a b c d : Int) (w : World) :
    Calls Try.prog 21 #[.agg #[.int .i64 c, .int .i64 b, .int .i64 a, .int .i64 d]] w fun e w' => e = .returned (.tuple #[.int .i64 (Gm.sizW (min a c) (min b d) (max a c) (max b d)), .int .i64 (Gm.sizH (min a c) (min b d) (max a c) (max b d)), .int .i64 (Gm.sizE (min a c) (min b d) (max a c) (max b d))]) ∧ Kept w w' := by
  have h := Size_any c b a d w
  rw [show min c a = min a c by omega, show max c a = max a c by omega] at h
  exact h
theorem Norm_again (a b c d : Int) (w : World) :
    Calls Try.prog 27 #[.agg #[.int .i64 (min a c), .int .i64 (min b d), .int .i64 (max a c), .int .i64 (max b d)]] w fun e w' => e = .returned (.agg #[.int .i64 (min a c), .int .i64 (min b d), .int .i64 (max a c), .int .i64 (max b d)]) ∧ Kept w w' := by
  have h := Norm_any (min a c) (min b d) (max a c) (max b d) w
  rw [show min (min a c) (max a c) = min a c by omega, show max (min a c) (max a c) = max a c by omega, show min (min b d) (max b d) = min b d by omega, show max (min b d) (max b d) = max b d by omega] at h
  exact h
theorem Inset_no (a b c d h : Int) (w : World) (k : Gm.setB a b c d h = false) :
    Calls Try.prog 25 #[.agg #[.int .i64 a, .int .i64 b, .int .i64 c, .int .i64 d], .int .i64 h] w fun e w' => e = .returned (.tuple #[.agg #[.int .i64 0, .int .i64 0, .int .i64 0, .int .i64 0], .bool false]) ∧ Kept w w' := by
  have q := Inset_any a b c d h w
  rw [k] at q
  simp only [Gm.yif_no rfl] at q
  exact q
theorem Inset_is (a b c d h : Int) (w : World) (k : Gm.setB a b c d h = true) :
    Calls Try.prog 25 #[.agg #[.int .i64 a, .int .i64 b, .int .i64 c, .int .i64 d], .int .i64 h] w fun e w' => e = .returned (.tuple #[.agg #[.int .i64 (min a c + h), .int .i64 (min b d + h), .int .i64 (max a c - h), .int .i64 (max b d - h)], .bool true]) ∧ Kept w w' := by
  have q := Inset_any a b c d h w
  have v := Gm.set_val k
  rw [k] at q
  simp only [Gm.yif_ok rfl] at q
  rw [v.2.1, v.2.2.1, v.2.2.2.1, v.2.2.2.2.1] at q
  exact q
theorem Size_val (a b c d : Int) (w : World) (h : Gm.sizE (min a c) (min b d) (max a c) (max b d) = 0) :
    Calls Try.prog 21 #[.agg #[.int .i64 a, .int .i64 b, .int .i64 c, .int .i64 d]] w fun e w' => e = .returned (.tuple #[.int .i64 (max a c - min a c), .int .i64 (max b d - min b d), .int .i64 0]) ∧ Kept w w' := by
  have q := Size_any a b c d w
  have v := Gm.siz_val h
  rw [v.1, v.2.1, h] at q
  exact q
theorem Size_valT (a b c d : Int) (w : World) (h : Gm.sizE (min a c) (min b d) (max a c) (max b d) = 0) :
    Calls Try.prog 21 #[.agg #[.int .i64 c, .int .i64 b, .int .i64 a, .int .i64 d]] w fun e w' => e = .returned (.tuple #[.int .i64 (max a c - min a c), .int .i64 (max b d - min b d), .int .i64 0]) ∧ Kept w w' := by
  have q := Size_turned a b c d w
  have v := Gm.siz_val h
  rw [v.1, v.2.1, h] at q
  exact q
theorem Size_in (p q r s : Int) (w : World) (h1 : p < r) (h2 : q < s) :
    Calls Try.prog 21 #[.agg #[.int .i64 p, .int .i64 q, .int .i64 r, .int .i64 s]] w fun e w' => e = .returned (.tuple #[.int .i64 (Gm.sizW p q r s), .int .i64 (Gm.sizH p q r s), .int .i64 (Gm.sizE p q r s)]) ∧ Kept w w' := by
  have k := Size_any p q r s w
  rw [show min p r = p by omega, show max p r = r by omega, show min q s = q by omega, show max q s = s by omega] at k
  exact k

set_option maxHeartbeats 4000000 in
theorem GeomSizes_A (a b c d h : Int) (w : World) (hs : Gm.setB a b c d h = false) :
    Calls Try.prog 9 #[.agg #[.int .i64 a, .int .i64 b, .int .i64 c, .int .i64 d], .int .i64 h] w fun e w' => e = .returned (.bool true) ∧ Kept w w' := by
  have HS := Lib.hid hs
  clear hs
  have er := neq_rect_same (min a c) (min b d) (max a c) (max b d)
  go_enter Try.func9, Try.ntmps9
  go_wp2_with fail
  refine (awake2_any _).mono ?_
  rintro e w1 ⟨rfl, k1⟩
  have HR1 := Lib.hid ((Blk.fresh w #[.int .i64 a, .int .i64 b, .int .i64 c, .int .i64 d] 26).kept k1)
  have HK1 := Lib.hid (((Kept.refl w).allocO _).trans k1)
  clear k1
  obtain ⟨r0, r1, r2, r3⟩ := HR1.out.cells4
  go_wp2_with fail
  refine (Size_any a b c d _).mono ?_
  rintro e w2 ⟨rfl, k2⟩
  have HR2 := Lib.hid (HR1.out.kept k2)
  have HK2 := Lib.hid (HK1.out.trans k2)
  clear k2 r0 r1 r2 r3
  obtain ⟨r0, r1, r2, r3⟩ := HR2.out.cells4
  go_wp2_with fail
  refine (Size_turned a b c d _).mono ?_
  rintro e w3 ⟨rfl, k3⟩
  have HR3 := Lib.hid (HR2.out.kept k3)
  have HK3 := Lib.hid (HK2.out.trans k3)
  clear k3 r0 r1 r2 r3
  obtain ⟨r0, r1, r2, r3⟩ := HR3.out.cells4
  go_wp2_with fail
  refine (Inset_no a b c d h _ HS.out).mono ?_
  rintro e w4 ⟨rfl, k4⟩
  have HR4 := Lib.hid (HR3.out.kept k4)
  have HK4 := Lib.hid (HK3.out.trans k4)
  clear k4 r0 r1 r2 r3
  have rz := HR4.out.lt
  go_wp2_with fail
  go_region_held3 (fun w' => w'.cell? ⟨w.heap.size, 0, none⟩ = some (.int .i64 a) ∧ w'.cell? ⟨w.heap.size, 1, none⟩ = some (.int .i64 b) ∧ w'.cell? ⟨w.heap.size, 2, none⟩ = some (.int .i64 c) ∧ w'.cell? ⟨w.heap.size, 3, none⟩ = some (.int .i64 d)) (first | with_reducible exact rectS (Blk.drew (Blk.alloc HR4.out _)) | with_reducible exact rectS HR5.out | with_reducible exact rectS HR6.out | with_reducible exact rectS HR7.out)
    (first
      | (go_at_call_of 27 (Value.agg #[.int .i64 (min a c), .int .i64 (min b d), .int .i64 (max a c), .int .i64 (max b d)]); refine (Norm_again a b c d _).mono ?_; rintro e w6 ⟨rfl, k6⟩; have HR6 := Lib.hid (HR5.out.kept k6); have HK6 := Lib.hid (HK5.out.trans k6); have HI6 := Lib.hid (HI5.out.kept k6))
      | (go_at_call_of 27 (Value.agg #[.int .i64 a, .int .i64 b, .int .i64 c, .int .i64 d]); refine (Norm_any a b c d _).mono ?_; rintro e wn ⟨rfl, kn⟩; (first
          | ((with_reducible have HR5 := Lib.hid (Blk.kept (Blk.drew (Blk.alloc HR4.out _)) kn)); have HK5 := Lib.hid ((HK4.out.allocO _).drew.trans kn); have HI5 := Lib.hid (Blk.kept (Blk.drew (Blk.fresh w4 _ _)) kn))
          | ((with_reducible have HR7 := Lib.hid (HR6.out.kept kn)); have HK7 := Lib.hid (HK6.out.trans kn); have HI7 := Lib.hid (HI6.out.kept kn)))))
  go_wp2_with fail
  go_ret
  exact ⟨rfl, HK7.out⟩

set_option maxHeartbeats 4000000 in
theorem GeomSizes_B (a b c d h : Int) (w : World) (hs : Gm.setB a b c d h = true) (he : ¬ Gm.sizE (min a c) (min b d) (max a c) (max b d) = 0) :
    Calls Try.prog 9 #[.agg #[.int .i64 a, .int .i64 b, .int .i64 c, .int .i64 d], .int .i64 h] w fun e w' => e = .returned (.bool true) ∧ Kept w w' := by
  have HS := Lib.hid hs
  have t0 := ne_yes he
  clear hs he
  have er := neq_rect_same (min a c) (min b d) (max a c) (max b d)
  go_enter Try.func9, Try.ntmps9
  go_wp2_with fail
  refine (awake2_any _).mono ?_
  rintro e w1 ⟨rfl, k1⟩
  have HR1 := Lib.hid ((Blk.fresh w #[.int .i64 a, .int .i64 b, .int .i64 c, .int .i64 d] 26).kept k1)
  have HK1 := Lib.hid (((Kept.refl w).allocO _).trans k1)
  clear k1
  obtain ⟨r0, r1, r2, r3⟩ := HR1.out.cells4
  go_wp2_with fail
  refine (Size_any a b c d _).mono ?_
  rintro e w2 ⟨rfl, k2⟩
  have HR2 := Lib.hid (HR1.out.kept k2)
  have HK2 := Lib.hid (HK1.out.trans k2)
  clear k2 r0 r1 r2 r3
  obtain ⟨r0, r1, r2, r3⟩ := HR2.out.cells4
  go_wp2_with fail
  refine (Size_turned a b c d _).mono ?_
  rintro e w3 ⟨rfl, k3⟩
  have HR3 := Lib.hid (HR2.out.kept k3)
  have HK3 := Lib.hid (HK2.out.trans k3)
  clear k3 r0 r1 r2 r3
  obtain ⟨r0, r1, r2, r3⟩ := HR3.out.cells4
  go_wp2_with fail
  refine (Inset_is a b c d h _ HS.out).mono ?_
  rintro e w4 ⟨rfl, k4⟩
  have HR4 := Lib.hid (HR3.out.kept k4)
  have HK4 := Lib.hid (HK3.out.trans k4)
  clear k4 r0 r1 r2 r3
  have rz := HR4.out.lt
  go_wp2_with fail
  go_region_held3 (fun w' => w'.cell? ⟨w.heap.size, 0, none⟩ = some (.int .i64 a) ∧ w'.cell? ⟨w.heap.size, 1, none⟩ = some (.int .i64 b) ∧ w'.cell? ⟨w.heap.size, 2, none⟩ = some (.int .i64 c) ∧ w'.cell? ⟨w.heap.size, 3, none⟩ = some (.int .i64 d)) (first | with_reducible exact rectS (Blk.drew (Blk.alloc HR4.out _)) | with_reducible exact rectS HR5.out | with_reducible exact rectS HR6.out | with_reducible exact rectS HR7.out)
    (first
      | (go_at_call_of 27 (Value.agg #[.int .i64 (min a c), .int .i64 (min b d), .int .i64 (max a c), .int .i64 (max b d)]); refine (Norm_again a b c d _).mono ?_; rintro e w6 ⟨rfl, k6⟩; have HR6 := Lib.hid (HR5.out.kept k6); have HK6 := Lib.hid (HK5.out.trans k6); have HI6 := Lib.hid (HI5.out.kept k6))
      | (go_at_call_of 27 (Value.agg #[.int .i64 a, .int .i64 b, .int .i64 c, .int .i64 d]); refine (Norm_any a b c d _).mono ?_; rintro e wn ⟨rfl, kn⟩; (first
          | ((with_reducible have HR5 := Lib.hid (Blk.kept (Blk.drew (Blk.alloc HR4.out _)) kn)); have HK5 := Lib.hid ((HK4.out.allocO _).drew.trans kn); have HI5 := Lib.hid (Blk.kept (Blk.drew (Blk.fresh w4 _ _)) kn))
          | ((with_reducible have HR7 := Lib.hid (HR6.out.kept kn)); have HK7 := Lib.hid (HK6.out.trans kn); have HI7 := Lib.hid (HI6.out.kept kn)))))
  go_wp2_with fail
  go_ret
  exact ⟨rfl, HK7.out⟩

set_option maxHeartbeats 4000000 in
theorem GeomSizes_C (a b c d h : Int) (w : World) (hs : Gm.setB a b c d h = true) (he : Gm.sizE (min a c) (min b d) (max a c) (max b d) = 0) (hm : Fx.saneB (2 * h) = false) :
    Calls Try.prog 9 #[.agg #[.int .i64 a, .int .i64 b, .int .i64 c, .int .i64 d], .int .i64 h] w fun e w' => e = .returned (.bool true) ∧ Kept w w' := by
  have HS := Lib.hid hs
  have HE := Lib.hid he
  obtain ⟨sh, -, -, -, -, i0, i1⟩ := Gm.set_val hs
  obtain ⟨-, -, s0, s1⟩ := Gm.siz_val he
  have h0 := Fx.sane_lo sh
  have h1 := Fx.sane_hi sh
  have w0 := Fx.sane_lo s0
  have w1' := Fx.sane_hi s0
  have g0 := Fx.sane_lo s1
  have g1 := Fx.sane_hi s1
  clear hs he sh s0 s1
  have HI0 := Lib.hid i0
  have HI1 := Lib.hid i1
  clear i0 i1
  have er := neq_rect_same (min a c) (min b d) (max a c) (max b d)
  go_enter Try.func9, Try.ntmps9
  go_wp2_with fail
  refine (awake2_any _).mono ?_
  rintro e w1 ⟨rfl, k1⟩
  have HR1 := Lib.hid ((Blk.fresh w #[.int .i64 a, .int .i64 b, .int .i64 c, .int .i64 d] 26).kept k1)
  have HK1 := Lib.hid (((Kept.refl w).allocO _).trans k1)
  clear k1
  obtain ⟨r0, r1, r2, r3⟩ := HR1.out.cells4
  go_wp2_with fail
  refine (Size_val a b c d _ HE.out).mono ?_
  rintro e w2 ⟨rfl, k2⟩
  have HR2 := Lib.hid (HR1.out.kept k2)
  have HK2 := Lib.hid (HK1.out.trans k2)
  clear k2 r0 r1 r2 r3
  obtain ⟨r0, r1, r2, r3⟩ := HR2.out.cells4
  go_wp2_with fail
  refine (Size_valT a b c d _ HE.out).mono ?_
  rintro e w3 ⟨rfl, k3⟩
  have HR3 := Lib.hid (HR2.out.kept k3)
  have HK3 := Lib.hid (HK2.out.trans k3)
  clear k3 r0 r1 r2 r3
  obtain ⟨r0, r1, r2, r3⟩ := HR3.out.cells4
  go_wp2_with fail
  refine (Inset_is a b c d h _ HS.out).mono ?_
  rintro e w4 ⟨rfl, k4⟩
  have HR4 := Lib.hid (HR3.out.kept k4)
  have HK4 := Lib.hid (HK3.out.trans k4)
  clear k4 r0 r1 r2 r3
  have rz := HR4.out.lt
  go_wp2_with fail
  go_region_held3 (fun w' => w'.cell? ⟨w.heap.size, 0, none⟩ = some (.int .i64 a) ∧ w'.cell? ⟨w.heap.size, 1, none⟩ = some (.int .i64 b) ∧ w'.cell? ⟨w.heap.size, 2, none⟩ = some (.int .i64 c) ∧ w'.cell? ⟨w.heap.size, 3, none⟩ = some (.int .i64 d)) (first | with_reducible exact rectS (Blk.drew (Blk.alloc HR4.out _)) | with_reducible exact rectS HR5.out | with_reducible exact rectS HR6.out | with_reducible exact rectS HR7.out)
    (first
      | (go_at_call_of 27 (Value.agg #[.int .i64 (min a c), .int .i64 (min b d), .int .i64 (max a c), .int .i64 (max b d)]); refine (Norm_again a b c d _).mono ?_; rintro e w6 ⟨rfl, k6⟩; have HR6 := Lib.hid (HR5.out.kept k6); have HK6 := Lib.hid (HK5.out.trans k6); have HI6 := Lib.hid (HI5.out.kept k6))
      | (go_at_call_of 27 (Value.agg #[.int .i64 a, .int .i64 b, .int .i64 c, .int .i64 d]); refine (Norm_any a b c d _).mono ?_; rintro e wn ⟨rfl, kn⟩; (first
          | ((with_reducible have HR5 := Lib.hid (Blk.kept (Blk.drew (Blk.alloc HR4.out _)) kn)); have HK5 := Lib.hid ((HK4.out.allocO _).drew.trans kn); have HI5 := Lib.hid (Blk.kept (Blk.drew (Blk.fresh w4 _ _)) kn))
          | ((with_reducible have HR7 := Lib.hid (HR6.out.kept kn)); have HK7 := Lib.hid (HK6.out.trans kn); have HI7 := Lib.hid (HI6.out.kept kn)))))
  go_wp2_with (go_at_call 30; refine (RMay_any _ _).mono ?_; rintro e w' ⟨rfl, rfl⟩)
  go_ret
  exact ⟨rfl, HK7.out⟩

set_option maxHeartbeats 4000000 in
theorem GeomSizes_D (a b c d h : Int) (w : World) (hs : Gm.setB a b c d h = true) (he : Gm.sizE (min a c) (min b d) (max a c) (max b d) = 0) (hm : Fx.saneB (2 * h) = true) (hi : ¬ Gm.sizE (min a c + h) (min b d + h) (max a c - h) (max b d - h) = 0) :
    Calls Try.prog 9 #[.agg #[.int .i64 a, .int .i64 b, .int .i64 c, .int .i64 d], .int .i64 h] w fun e w' => e = .returned (.bool true) ∧ Kept w w' := by
  have HS := Lib.hid hs
  have HE := Lib.hid he
  obtain ⟨sh, -, -, -, -, i0, i1⟩ := Gm.set_val hs
  obtain ⟨-, -, s0, s1⟩ := Gm.siz_val he
  have h0 := Fx.sane_lo sh
  have h1 := Fx.sane_hi sh
  have w0 := Fx.sane_lo s0
  have w1' := Fx.sane_hi s0
  have g0 := Fx.sane_lo s1
  have g1 := Fx.sane_hi s1
  clear hs he sh s0 s1
  have HI0 := Lib.hid i0
  have HI1 := Lib.hid i1
  clear i0 i1
  have t9 := ne_yes hi
  clear hi
  have er := neq_rect_same (min a c) (min b d) (max a c) (max b d)
  go_enter Try.func9, Try.ntmps9
  go_wp2_with fail
  refine (awake2_any _).mono ?_
  rintro e w1 ⟨rfl, k1⟩
  have HR1 := Lib.hid ((Blk.fresh w #[.int .i64 a, .int .i64 b, .int .i64 c, .int .i64 d] 26).kept k1)
  have HK1 := Lib.hid (((Kept.refl w).allocO _).trans k1)
  clear k1
  obtain ⟨r0, r1, r2, r3⟩ := HR1.out.cells4
  go_wp2_with fail
  refine (Size_val a b c d _ HE.out).mono ?_
  rintro e w2 ⟨rfl, k2⟩
  have HR2 := Lib.hid (HR1.out.kept k2)
  have HK2 := Lib.hid (HK1.out.trans k2)
  clear k2 r0 r1 r2 r3
  obtain ⟨r0, r1, r2, r3⟩ := HR2.out.cells4
  go_wp2_with fail
  refine (Size_valT a b c d _ HE.out).mono ?_
  rintro e w3 ⟨rfl, k3⟩
  have HR3 := Lib.hid (HR2.out.kept k3)
  have HK3 := Lib.hid (HK2.out.trans k3)
  clear k3 r0 r1 r2 r3
  obtain ⟨r0, r1, r2, r3⟩ := HR3.out.cells4
  go_wp2_with fail
  refine (Inset_is a b c d h _ HS.out).mono ?_
  rintro e w4 ⟨rfl, k4⟩
  have HR4 := Lib.hid (HR3.out.kept k4)
  have HK4 := Lib.hid (HK3.out.trans k4)
  clear k4 r0 r1 r2 r3
  have rz := HR4.out.lt
  go_wp2_with fail
  go_region_held3 (fun w' => w'.cell? ⟨w.heap.size, 0, none⟩ = some (.int .i64 a) ∧ w'.cell? ⟨w.heap.size, 1, none⟩ = some (.int .i64 b) ∧ w'.cell? ⟨w.heap.size, 2, none⟩ = some (.int .i64 c) ∧ w'.cell? ⟨w.heap.size, 3, none⟩ = some (.int .i64 d)) (first | with_reducible exact rectS (Blk.drew (Blk.alloc HR4.out _)) | with_reducible exact rectS HR5.out | with_reducible exact rectS HR6.out | with_reducible exact rectS HR7.out)
    (first
      | (go_at_call_of 27 (Value.agg #[.int .i64 (min a c), .int .i64 (min b d), .int .i64 (max a c), .int .i64 (max b d)]); refine (Norm_again a b c d _).mono ?_; rintro e w6 ⟨rfl, k6⟩; have HR6 := Lib.hid (HR5.out.kept k6); have HK6 := Lib.hid (HK5.out.trans k6); have HI6 := Lib.hid (HI5.out.kept k6))
      | (go_at_call_of 27 (Value.agg #[.int .i64 a, .int .i64 b, .int .i64 c, .int .i64 d]); refine (Norm_any a b c d _).mono ?_; rintro e wn ⟨rfl, kn⟩; (first
          | ((with_reducible have HR5 := Lib.hid (Blk.kept (Blk.drew (Blk.alloc HR4.out _)) kn)); have HK5 := Lib.hid ((HK4.out.allocO _).drew.trans kn); have HI5 := Lib.hid (Blk.kept (Blk.drew (Blk.fresh w4 _ _)) kn))
          | ((with_reducible have HR7 := Lib.hid (HR6.out.kept kn)); have HK7 := Lib.hid (HK6.out.trans kn); have HI7 := Lib.hid (HI6.out.kept kn)))))
  obtain ⟨j0, j1, j2, j3⟩ := HI7.out.cells4
  go_wp2_with (first | (go_at_call 30; refine (RMay_any _ _).mono ?_; rintro e w' ⟨rfl, rfl⟩) | fail)
  refine (Size_in (min a c + h) (min b d + h) (max a c - h) (max b d - h) _ HI0.out HI1.out).mono ?_
  rintro e w8 ⟨rfl, k8⟩
  go_wp2_with fail
  go_ret
  exact ⟨rfl, HK7.out.trans k8⟩

set_option maxHeartbeats 4000000 in
theorem GeomSizes_E (a b c d h : Int) (w : World) (hs : Gm.setB a b c d h = true) (he : Gm.sizE (min a c) (min b d) (max a c) (max b d) = 0) (hm : Fx.saneB (2 * h) = true) (hi : Gm.sizE (min a c + h) (min b d + h) (max a c - h) (max b d - h) = 0) :
    Calls Try.prog 9 #[.agg #[.int .i64 a, .int .i64 b, .int .i64 c, .int .i64 d], .int .i64 h] w fun e w' => e = .returned (.bool true) ∧ Kept w w' := by
  have HS := Lib.hid hs
  have HE := Lib.hid he
  obtain ⟨sh, -, -, -, -, i0, i1⟩ := Gm.set_val hs
  obtain ⟨-, -, s0, s1⟩ := Gm.siz_val he
  have h0 := Fx.sane_lo sh
  have h1 := Fx.sane_hi sh
  have w0 := Fx.sane_lo s0
  have w1' := Fx.sane_hi s0
  have g0 := Fx.sane_lo s1
  have g1 := Fx.sane_hi s1
  clear hs he sh s0 s1
  have HI0 := Lib.hid i0
  have HI1 := Lib.hid i1
  clear i0 i1
  have t9 := ne_no hi
  have HV := Lib.hid (Gm.siz_val hi)
  clear hi
  have er := neq_rect_same (min a c) (min b d) (max a c) (max b d)
  go_enter Try.func9, Try.ntmps9
  go_wp2_with fail
  refine (awake2_any _).mono ?_
  rintro e w1 ⟨rfl, k1⟩
  have HR1 := Lib.hid ((Blk.fresh w #[.int .i64 a, .int .i64 b, .int .i64 c, .int .i64 d] 26).kept k1)
  have HK1 := Lib.hid (((Kept.refl w).allocO _).trans k1)
  clear k1
  obtain ⟨r0, r1, r2, r3⟩ := HR1.out.cells4
  go_wp2_with fail
  refine (Size_val a b c d _ HE.out).mono ?_
  rintro e w2 ⟨rfl, k2⟩
  have HR2 := Lib.hid (HR1.out.kept k2)
  have HK2 := Lib.hid (HK1.out.trans k2)
  clear k2 r0 r1 r2 r3
  obtain ⟨r0, r1, r2, r3⟩ := HR2.out.cells4
  go_wp2_with fail
  refine (Size_valT a b c d _ HE.out).mono ?_
  rintro e w3 ⟨rfl, k3⟩
  have HR3 := Lib.hid (HR2.out.kept k3)
  have HK3 := Lib.hid (HK2.out.trans k3)
  clear k3 r0 r1 r2 r3
  obtain ⟨r0, r1, r2, r3⟩ := HR3.out.cells4
  go_wp2_with fail
  refine (Inset_is a b c d h _ HS.out).mono ?_
  rintro e w4 ⟨rfl, k4⟩
  have HR4 := Lib.hid (HR3.out.kept k4)
  have HK4 := Lib.hid (HK3.out.trans k4)
  clear k4 r0 r1 r2 r3
  have rz := HR4.out.lt
  go_wp2_with fail
  go_region_held3 (fun w' => w'.cell? ⟨w.heap.size, 0, none⟩ = some (.int .i64 a) ∧ w'.cell? ⟨w.heap.size, 1, none⟩ = some (.int .i64 b) ∧ w'.cell? ⟨w.heap.size, 2, none⟩ = some (.int .i64 c) ∧ w'.cell? ⟨w.heap.size, 3, none⟩ = some (.int .i64 d)) (first | with_reducible exact rectS (Blk.drew (Blk.alloc HR4.out _)) | with_reducible exact rectS HR5.out | with_reducible exact rectS HR6.out | with_reducible exact rectS HR7.out)
    (first
      | (go_at_call_of 27 (Value.agg #[.int .i64 (min a c), .int .i64 (min b d), .int .i64 (max a c), .int .i64 (max b d)]); refine (Norm_again a b c d _).mono ?_; rintro e w6 ⟨rfl, k6⟩; have HR6 := Lib.hid (HR5.out.kept k6); have HK6 := Lib.hid (HK5.out.trans k6); have HI6 := Lib.hid (HI5.out.kept k6))
      | (go_at_call_of 27 (Value.agg #[.int .i64 a, .int .i64 b, .int .i64 c, .int .i64 d]); refine (Norm_any a b c d _).mono ?_; rintro e wn ⟨rfl, kn⟩; (first
          | ((with_reducible have HR5 := Lib.hid (Blk.kept (Blk.drew (Blk.alloc HR4.out _)) kn)); have HK5 := Lib.hid ((HK4.out.allocO _).drew.trans kn); have HI5 := Lib.hid (Blk.kept (Blk.drew (Blk.fresh w4 _ _)) kn))
          | ((with_reducible have HR7 := Lib.hid (HR6.out.kept kn)); have HK7 := Lib.hid (HK6.out.trans kn); have HI7 := Lib.hid (HI6.out.kept kn)))))
  obtain ⟨j0, j1, j2, j3⟩ := HI7.out.cells4
  go_wp2_with (first | (go_at_call 30; refine (RMay_any _ _).mono ?_; rintro e w' ⟨rfl, rfl⟩) | fail)
  refine (Size_in (min a c + h) (min b d + h) (max a c - h) (max b d - h) _ HI0.out HI1.out).mono ?_
  rintro e w8 ⟨rfl, k8⟩
  have q1 : (Gm.sizW (min a c + h) (min b d + h) (max a c - h) (max b d - h) == max a c - min a c - 2 * h) = true := by rw [HV.out.1, beq_iff_eq]; omega
  have q2 : (Gm.sizH (min a c + h) (min b d + h) (max a c - h) (max b d - h) == max b d - min b d - 2 * h) = true := by rw [HV.out.2.1, beq_iff_eq]; omega
  go_wp2_with fail
  go_ret
  exact ⟨rfl, HK7.out.trans k8⟩

theorem GeomSizes_walk (a b c d h : Int) (w : World) :
    Calls Try.prog 9 #[.agg #[.int .i64 a, .int .i64 b, .int .i64 c, .int .i64 d], .int .i64 h] w fun e w' => e = .returned (.bool true) ∧ Kept w w' := by
  cases hs : Gm.setB a b c d h
  · exact GeomSizes_A a b c d h w hs
  · by_cases he : Gm.sizE (min a c) (min b d) (max a c) (max b d) = 0
    · cases hm : Fx.saneB (2 * h)
      · exact GeomSizes_C a b c d h w hs he hm
      · by_cases hi : Gm.sizE (min a c + h) (min b d + h) (max a c - h) (max b d - h) = 0
        · exact GeomSizes_E a b c d h w hs he hm hi
        · exact GeomSizes_D a b c d h w hs he hm hi
    · exact GeomSizes_B a b c d h w hs he

end Go.Proofs.Ytbckjejflbfjlaa
