/-
  What package geom's scales answers.
-/
import Derived.Test.YtbckjejflbfjlaaGeomSize
import Derived.Test.YtbckjejflbfjlaaGeomPlaceMath
namespace Go.Proofs.Ytbckjejflbfjlaa
open Go.RowKit

set_option maxHeartbeats 1000000 in
theorem scales_0 (a b c d p q r s : Int) (w : World)  (h0 : ¬ Gm.sizE (min a c) (min b d) (max a c) (max b d) = 0) :
    Calls Try.prog 38 #[.agg #[.int .i64 a, .int .i64 b, .int .i64 c, .int .i64 d], .agg #[.int .i64 p, .int .i64 q, .int .i64 r, .int .i64 s]] w fun e w' => e = .returned (.tuple #[.int .i64 (Gm.scX a b c d p q r s), .int .i64 (Gm.scY a b c d p q r s), .int .i64 (Gm.scE a b c d p q r s)]) ∧ Kept w w' := by
  have H := Lib.hid (Gm.sc_err (p := p) (q := q) (r := r) (s := s) (a := a) (b := b) (c := c) (d := d) (e := Gm.sizE (min a c) (min b d) (max a c) (max b d)) (Gm.fst4_0 h0) h0)
  have t0 := ne_yes h0
  clear h0
  go_enter Try.func38, Try.ntmps38
  go_wp2_with fail
  refine (Size_any a b c d _).mono ?_
  rintro e w1 ⟨rfl, k1⟩
  obtain ⟨c1, f1⟩ := k1.cells
  go_wp2_with fail
  go_ret3
  exact ⟨ret_ints3 H.out.1.symm H.out.2.1.symm H.out.2.2.symm, (((Kept.refl w).alloc _ _).alloc _ _).trans k1⟩

set_option maxHeartbeats 1000000 in
theorem scales_1 (a b c d p q r s : Int) (w : World) (h0 : Gm.sizE (min a c) (min b d) (max a c) (max b d) = 0) (h1 : ¬ Gm.sizE (min p r) (min q s) (max p r) (max q s) = 0) :
    Calls Try.prog 38 #[.agg #[.int .i64 a, .int .i64 b, .int .i64 c, .int .i64 d], .agg #[.int .i64 p, .int .i64 q, .int .i64 r, .int .i64 s]] w fun e w' => e = .returned (.tuple #[.int .i64 (Gm.scX a b c d p q r s), .int .i64 (Gm.scY a b c d p q r s), .int .i64 (Gm.scE a b c d p q r s)]) ∧ Kept w w' := by
  have H := Lib.hid (Gm.sc_err (p := p) (q := q) (r := r) (s := s) (a := a) (b := b) (c := c) (d := d) (e := Gm.sizE (min p r) (min q s) (max p r) (max q s)) (Gm.fst4_1 h0 h1) h1)
  have t0 := ne_no h0
  have t1 := ne_yes h1
  clear h0 h1
  go_enter Try.func38, Try.ntmps38
  go_wp2_with fail
  refine (Size_any a b c d _).mono ?_
  rintro e w1 ⟨rfl, k1⟩
  obtain ⟨c1, f1⟩ := k1.cells
  go_wp2_with fail
  refine (Size_any p q r s _).mono ?_
  rintro e w2 ⟨rfl, k2⟩
  go_wp2_with fail
  go_ret3
  exact ⟨ret_ints3 H.out.1.symm H.out.2.1.symm H.out.2.2.symm, ((((Kept.refl w).alloc _ _).alloc _ _).trans k1).trans k2⟩

set_option maxHeartbeats 1000000 in
theorem scales_2 (a b c d p q r s : Int) (w : World) (h0 : Gm.sizE (min a c) (min b d) (max a c) (max b d) = 0) (h1 : Gm.sizE (min p r) (min q s) (max p r) (max q s) = 0) (h2 : ¬ Fx.divE (Gm.sizW (min p r) (min q s) (max p r) (max q s)) (Gm.sizW (min a c) (min b d) (max a c) (max b d)) = 0) :
    Calls Try.prog 38 #[.agg #[.int .i64 a, .int .i64 b, .int .i64 c, .int .i64 d], .agg #[.int .i64 p, .int .i64 q, .int .i64 r, .int .i64 s]] w fun e w' => e = .returned (.tuple #[.int .i64 (Gm.scX a b c d p q r s), .int .i64 (Gm.scY a b c d p q r s), .int .i64 (Gm.scE a b c d p q r s)]) ∧ Kept w w' := by
  have H := Lib.hid (Gm.sc_err (p := p) (q := q) (r := r) (s := s) (a := a) (b := b) (c := c) (d := d) (e := Fx.divE (Gm.sizW (min p r) (min q s) (max p r) (max q s)) (Gm.sizW (min a c) (min b d) (max a c) (max b d))) (Gm.fst4_2 h0 h1 h2) h2)
  have t0 := ne_no h0
  have t1 := ne_no h1
  have t2 := ne_yes h2
  clear h0 h1 h2
  go_enter Try.func38, Try.ntmps38
  go_wp2_with fail
  refine (Size_any a b c d _).mono ?_
  rintro e w1 ⟨rfl, k1⟩
  obtain ⟨c1, f1⟩ := k1.cells
  go_wp2_with fail
  refine (Size_any p q r s _).mono ?_
  rintro e w2 ⟨rfl, k2⟩
  go_wp2_with fail
  refine (Div_any _ _ _).mono ?_
  rintro e w3 ⟨rfl, k3⟩
  go_wp2_with fail
  go_ret3
  exact ⟨ret_ints3 H.out.1.symm H.out.2.1.symm H.out.2.2.symm, (((((Kept.refl w).alloc _ _).alloc _ _).trans k1).trans k2).trans k3⟩

set_option maxHeartbeats 1000000 in
theorem scales_3 (a b c d p q r s : Int) (w : World) (h0 : Gm.sizE (min a c) (min b d) (max a c) (max b d) = 0) (h1 : Gm.sizE (min p r) (min q s) (max p r) (max q s) = 0) (h2 : Fx.divE (Gm.sizW (min p r) (min q s) (max p r) (max q s)) (Gm.sizW (min a c) (min b d) (max a c) (max b d)) = 0) (h3 : ¬ Fx.divE (Gm.sizH (min p r) (min q s) (max p r) (max q s)) (Gm.sizH (min a c) (min b d) (max a c) (max b d)) = 0) :
    Calls Try.prog 38 #[.agg #[.int .i64 a, .int .i64 b, .int .i64 c, .int .i64 d], .agg #[.int .i64 p, .int .i64 q, .int .i64 r, .int .i64 s]] w fun e w' => e = .returned (.tuple #[.int .i64 (Gm.scX a b c d p q r s), .int .i64 (Gm.scY a b c d p q r s), .int .i64 (Gm.scE a b c d p q r s)]) ∧ Kept w w' := by
  have H := Lib.hid (Gm.sc_err (p := p) (q := q) (r := r) (s := s) (a := a) (b := b) (c := c) (d := d) (e := Fx.divE (Gm.sizH (min p r) (min q s) (max p r) (max q s)) (Gm.sizH (min a c) (min b d) (max a c) (max b d))) (Gm.fst4_3 h0 h1 h2) h3)
  have t0 := ne_no h0
  have t1 := ne_no h1
  have t2 := ne_no h2
  have t3 := ne_yes h3
  clear h0 h1 h2 h3
  go_enter Try.func38, Try.ntmps38
  go_wp2_with fail
  refine (Size_any a b c d _).mono ?_
  rintro e w1 ⟨rfl, k1⟩
  obtain ⟨c1, f1⟩ := k1.cells
  go_wp2_with fail
  refine (Size_any p q r s _).mono ?_
  rintro e w2 ⟨rfl, k2⟩
  go_wp2_with fail
  refine (Div_any _ _ _).mono ?_
  rintro e w3 ⟨rfl, k3⟩
  go_wp2_with fail
  refine (Div_any _ _ _).mono ?_
  rintro e w4 ⟨rfl, k4⟩
  go_wp2_with fail
  go_ret3
  exact ⟨ret_ints3 H.out.1.symm H.out.2.1.symm H.out.2.2.symm, ((((((Kept.refl w).alloc _ _).alloc _ _).trans k1).trans k2).trans k3).trans k4⟩

set_option maxHeartbeats 1000000 in
theorem scales_4 (a b c d p q r s : Int) (w : World) (h0 : Gm.sizE (min a c) (min b d) (max a c) (max b d) = 0) (h1 : Gm.sizE (min p r) (min q s) (max p r) (max q s) = 0) (h2 : Fx.divE (Gm.sizW (min p r) (min q s) (max p r) (max q s)) (Gm.sizW (min a c) (min b d) (max a c) (max b d)) = 0) (h3 : Fx.divE (Gm.sizH (min p r) (min q s) (max p r) (max q s)) (Gm.sizH (min a c) (min b d) (max a c) (max b d)) = 0) :
    Calls Try.prog 38 #[.agg #[.int .i64 a, .int .i64 b, .int .i64 c, .int .i64 d], .agg #[.int .i64 p, .int .i64 q, .int .i64 r, .int .i64 s]] w fun e w' => e = .returned (.tuple #[.int .i64 (Gm.scX a b c d p q r s), .int .i64 (Gm.scY a b c d p q r s), .int .i64 (Gm.scE a b c d p q r s)]) ∧ Kept w w' := by
  have H := Lib.hid (Gm.sc_ok h0 h1 h2 h3)
  have t0 := ne_no h0
  have t1 := ne_no h1
  have t2 := ne_no h2
  have t3 := ne_no h3
  clear h0 h1 h2 h3
  go_enter Try.func38, Try.ntmps38
  go_wp2_with fail
  refine (Size_any a b c d _).mono ?_
  rintro e w1 ⟨rfl, k1⟩
  obtain ⟨c1, f1⟩ := k1.cells
  go_wp2_with fail
  refine (Size_any p q r s _).mono ?_
  rintro e w2 ⟨rfl, k2⟩
  go_wp2_with fail
  refine (Div_any _ _ _).mono ?_
  rintro e w3 ⟨rfl, k3⟩
  go_wp2_with fail
  refine (Div_any _ _ _).mono ?_
  rintro e w4 ⟨rfl, k4⟩
  go_wp2_with fail
  go_ret3
  exact ⟨ret_ints3 H.out.1.symm H.out.2.1.symm H.out.2.2.symm, ((((((Kept.refl w).alloc _ _).alloc _ _).trans k1).trans k2).trans k3).trans k4⟩

theorem scales_any (a b c d p q r s : Int) (w : World) :
    Calls Try.prog 38 #[.agg #[.int .i64 a, .int .i64 b, .int .i64 c, .int .i64 d], .agg #[.int .i64 p, .int .i64 q, .int .i64 r, .int .i64 s]] w fun e w' => e = .returned (.tuple #[.int .i64 (Gm.scX a b c d p q r s), .int .i64 (Gm.scY a b c d p q r s), .int .i64 (Gm.scE a b c d p q r s)]) ∧ Kept w w' := by
  by_cases h0 : Gm.sizE (min a c) (min b d) (max a c) (max b d) = 0
  · by_cases h1 : Gm.sizE (min p r) (min q s) (max p r) (max q s) = 0
    · by_cases h2 : Fx.divE (Gm.sizW (min p r) (min q s) (max p r) (max q s)) (Gm.sizW (min a c) (min b d) (max a c) (max b d)) = 0
      · by_cases h3 : Fx.divE (Gm.sizH (min p r) (min q s) (max p r) (max q s)) (Gm.sizH (min a c) (min b d) (max a c) (max b d)) = 0
        · exact scales_4 a b c d p q r s w h0 h1 h2 h3
        · exact scales_3 a b c d p q r s w h0 h1 h2 h3
      · exact scales_2 a b c d p q r s w h0 h1 h2
    · exact scales_1 a b c d p q r s w h0 h1
  · exact scales_0 a b c d p q r s w h0

end Go.Proofs.Ytbckjejflbfjlaa
