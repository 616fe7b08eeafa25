/-
  What package geom's smaller functions answer.
-/
import Derived.Test.YtbckjejflbfjlaaFixOps
import Derived.Test.YtbckjejflbfjlaaGeomMath
namespace Go.Proofs.Ytbckjejflbfjlaa
open Go.RowKit

theorem run_least {P : Program} {w : World} (ts : Array TypeId) (t : TypeId) (k k' : IntKind) (x y : Int) : (Builtin.min_ ts t #[.int k x, .int k' y]).run P w = .ok (.int k (min x y)) w := by
  rw [run_min_int2]; congr 2; split <;> omega
theorem run_greatest {P : Program} {w : World} (ts : Array TypeId) (t : TypeId) (k k' : IntKind) (x y : Int) : (Builtin.max_ ts t #[.int k x, .int k' y]).run P w = .ok (.int k (max x y)) w := by
  rw [run_max_int2]; congr 2; split <;> omega
attribute [local go_sem ↓] run_least run_greatest

theorem ret_ints3 {a b c d e f : Int} (h : a = b) (h' : c = d) (h'' : e = f) : Ending.returned (.tuple #[.int .i64 a, .int .i64 c, .int .i64 e]) = .returned (.tuple #[.int .i64 b, .int .i64 d, .int .i64 f]) := by rw [h, h', h'']
theorem ne_no {a : Int} (h : a = 0) : (a != 0) = false := by rw [h]; rfl
theorem ne_yes {a : Int} (h : ¬ a = 0) : (a != 0) = true := bne_iff_ne.2 h

set_option maxHeartbeats 400000 in
theorem Unit_any (w : World) :
    Calls Try.prog 19 #[] w fun e w' => e = .returned (.agg #[.int .i64 1000, .int .i64 0, .int .i64 0, .int .i64 1000, .int .i64 0, .int .i64 0]) ∧ Kept w w' := by
  go_enter Try.func19, Try.ntmps19
  go_wp2
  exact bodyPost_ret (v := .agg #[.int .i64 1000, .int .i64 0, .int .i64 0, .int .i64 1000, .int .i64 0, .int .i64 0]) (by simp [results, Try.results19, go_sem]) rfl ⟨rfl, (Kept.refl _).alloc _ _⟩

set_option maxHeartbeats 400000 in
theorem Norm_any (a b c d : Int) (w : World) :
    Calls Try.prog 27 #[.agg #[.int .i64 a, .int .i64 b, .int .i64 c, .int .i64 d]] w fun e w' => e = .returned (.agg #[.int .i64 (min a c), .int .i64 (min b d), .int .i64 (max a c), .int .i64 (max b d)]) ∧ Kept w w' := by
  go_enter Try.func27, Try.ntmps27
  go_wp2
  exact bodyPost_ret (v := .agg #[.int .i64 (min a c), .int .i64 (min b d), .int .i64 (max a c), .int .i64 (max b d)]) (by simp [results, Try.results27, go_sem]) rfl ⟨rfl, ((Kept.refl _).alloc _ _).alloc _ _⟩

set_option maxHeartbeats 400000 in
theorem corners_any (a b c d : Int) (w : World) :
    Calls Try.prog 36 #[.agg #[.int .i64 a, .int .i64 b, .int .i64 c, .int .i64 d]] w fun e w' => e = .returned (.agg #[.int .i64 a, .int .i64 b, .int .i64 c, .int .i64 b, .int .i64 a, .int .i64 d, .int .i64 c, .int .i64 d]) ∧ Kept w w' := by
  go_enter Try.func36, Try.ntmps36
  go_wp2
  exact bodyPost_ret (v := .agg #[.int .i64 a, .int .i64 b, .int .i64 c, .int .i64 b, .int .i64 a, .int .i64 d, .int .i64 c, .int .i64 d]) (by simp [results, Try.results36, go_sem]) rfl ⟨rfl, ((Kept.refl _).alloc _ _).alloc _ _⟩

set_option maxHeartbeats 400000 in
theorem grown_any (a b c d x y : Int) (w : World) :
    Calls Try.prog 37 #[.agg #[.int .i64 a, .int .i64 b, .int .i64 c, .int .i64 d], .int .i64 x, .int .i64 y] w fun e w' => e = .returned (.agg #[.int .i64 (min a x), .int .i64 (min b y), .int .i64 (max c x), .int .i64 (max d y)]) ∧ Kept w w' := by
  go_enter Try.func37, Try.ntmps37
  go_wp2
  exact bodyPost_ret (v := .agg #[.int .i64 (min a x), .int .i64 (min b y), .int .i64 (max c x), .int .i64 (max d y)]) (by simp [results, Try.results37, go_sem]) rfl ⟨rfl, ((Kept.refl _).alloc _ _).alloc _ _⟩

set_option maxHeartbeats 400000 in
theorem inside_yes (a b c d : Int) (w : World) (h : a < c) (h' : b < d) :
    Calls Try.prog 45 #[.agg #[.int .i64 a, .int .i64 b, .int .i64 c, .int .i64 d]] w fun e w' => e = .returned (.tuple #[.agg #[.int .i64 a, .int .i64 b, .int .i64 c, .int .i64 d], .bool true]) ∧ Kept w w' := by
  go_enter Try.func45, Try.ntmps45
  go_wp2
  exact bodyPost_ret (v := .tuple #[.agg #[.int .i64 a, .int .i64 b, .int .i64 c, .int .i64 d], .bool true]) (by simp [results, Try.results45, go_sem]) rfl ⟨rfl, ((Kept.refl _).alloc _ _).alloc _ _⟩

set_option maxHeartbeats 400000 in
theorem inside_no (a b c d : Int) (w : World) (h : c ≤ a ∨ d ≤ b) :
    Calls Try.prog 45 #[.agg #[.int .i64 a, .int .i64 b, .int .i64 c, .int .i64 d]] w fun e w' => e = .returned (.tuple #[.agg #[.int .i64 0, .int .i64 0, .int .i64 0, .int .i64 0], .bool false]) ∧ Kept w w' := by
  by_cases h1 : c ≤ a
  · clear h
    go_enter Try.func45, Try.ntmps45
    go_wp2
    exact bodyPost_ret (v := .tuple #[.agg #[.int .i64 0, .int .i64 0, .int .i64 0, .int .i64 0], .bool false]) (by simp [results, Try.results45, go_sem]) rfl ⟨rfl, ((Kept.refl _).alloc _ _).alloc _ _⟩
  · have h2 : d ≤ b := by omega
    clear h
    go_enter Try.func45, Try.ntmps45
    go_wp2
    exact bodyPost_ret (v := .tuple #[.agg #[.int .i64 0, .int .i64 0, .int .i64 0, .int .i64 0], .bool false]) (by simp [results, Try.results45, go_sem]) rfl ⟨rfl, ((Kept.refl _).alloc _ _).alloc _ _⟩

set_option maxHeartbeats 1000000 in
theorem turned_0 (m0 m1 m2 m3 m4 m5 x y : Int) (w : World) :
    Calls Try.prog 47 #[.agg #[.int .i64 m0, .int .i64 m1, .int .i64 m2, .int .i64 m3, .int .i64 m4, .int .i64 m5], .int .i64 0, .int .i64 x, .int .i64 y] w fun e w' => e = .returned (.tuple #[.int .i64 (Gm.twoV x m0 y m2), .int .i64 (Gm.twoE x m0 y m2)]) ∧ Kept w w' := by
  by_cases h1 : Fx.mulE x m0 = 0
  · by_cases h2 : Fx.mulE y m2 = 0
    · have H := Lib.hid (Gm.two_3 h1 h2)
      have t1 := ne_no h1
      have t2 := ne_no h2
      clear h1 h2
      go_enter Try.func47, Try.ntmps47
      go_wp2_with fail
      refine (Mul_any _ _ _).mono ?_
      rintro e w1 ⟨rfl, k1⟩
      obtain ⟨c1, f1⟩ := k1.cells
      go_wp2_with fail
      refine (Mul_any _ _ _).mono ?_
      rintro e w2 ⟨rfl, k2⟩
      go_wp2_with fail
      refine (Add_any _ _ _).mono ?_
      rintro e w3 ⟨rfl, k3⟩
      go_wp2_with fail
      go_ret2
      exact ⟨ret_ints H.out.1.symm H.out.2.symm, (((Kept.refl _).alloc _ _).trans k1).trans (k2.trans k3)⟩
    · have H := Lib.hid (Gm.two_2 h1 h2)
      have t1 := ne_no h1
      have t2 := ne_yes h2
      clear h1 h2
      go_enter Try.func47, Try.ntmps47
      go_wp2_with fail
      refine (Mul_any _ _ _).mono ?_
      rintro e w1 ⟨rfl, k1⟩
      obtain ⟨c1, f1⟩ := k1.cells
      go_wp2_with fail
      refine (Mul_any _ _ _).mono ?_
      rintro e w2 ⟨rfl, k2⟩
      go_wp2_with fail
      go_ret2
      exact ⟨ret_ints H.out.1.symm H.out.2.symm, (((Kept.refl _).alloc _ _).trans k1).trans k2⟩
  · have H := Lib.hid (Gm.two_1 (c := y) (d := m2) h1)
    have t1 := ne_yes h1
    clear h1
    go_enter Try.func47, Try.ntmps47
    go_wp2_with fail
    refine (Mul_any _ _ _).mono ?_
    rintro e w1 ⟨rfl, k1⟩
    go_wp2_with fail
    go_ret2
    exact ⟨ret_ints H.out.1.symm H.out.2.symm, ((Kept.refl _).alloc _ _).trans k1⟩

set_option maxHeartbeats 1000000 in
theorem turned_1 (m0 m1 m2 m3 m4 m5 x y : Int) (w : World) :
    Calls Try.prog 47 #[.agg #[.int .i64 m0, .int .i64 m1, .int .i64 m2, .int .i64 m3, .int .i64 m4, .int .i64 m5], .int .i64 1, .int .i64 x, .int .i64 y] w fun e w' => e = .returned (.tuple #[.int .i64 (Gm.twoV x m1 y m3), .int .i64 (Gm.twoE x m1 y m3)]) ∧ Kept w w' := by
  by_cases h1 : Fx.mulE x m1 = 0
  · by_cases h2 : Fx.mulE y m3 = 0
    · have H := Lib.hid (Gm.two_3 h1 h2)
      have t1 := ne_no h1
      have t2 := ne_no h2
      clear h1 h2
      go_enter Try.func47, Try.ntmps47
      go_wp2_with fail
      refine (Mul_any _ _ _).mono ?_
      rintro e w1 ⟨rfl, k1⟩
      obtain ⟨c1, f1⟩ := k1.cells
      go_wp2_with fail
      refine (Mul_any _ _ _).mono ?_
      rintro e w2 ⟨rfl, k2⟩
      go_wp2_with fail
      refine (Add_any _ _ _).mono ?_
      rintro e w3 ⟨rfl, k3⟩
      go_wp2_with fail
      go_ret2
      exact ⟨ret_ints H.out.1.symm H.out.2.symm, (((Kept.refl _).alloc _ _).trans k1).trans (k2.trans k3)⟩
    · have H := Lib.hid (Gm.two_2 h1 h2)
      have t1 := ne_no h1
      have t2 := ne_yes h2
      clear h1 h2
      go_enter Try.func47, Try.ntmps47
      go_wp2_with fail
      refine (Mul_any _ _ _).mono ?_
      rintro e w1 ⟨rfl, k1⟩
      obtain ⟨c1, f1⟩ := k1.cells
      go_wp2_with fail
      refine (Mul_any _ _ _).mono ?_
      rintro e w2 ⟨rfl, k2⟩
      go_wp2_with fail
      go_ret2
      exact ⟨ret_ints H.out.1.symm H.out.2.symm, (((Kept.refl _).alloc _ _).trans k1).trans k2⟩
  · have H := Lib.hid (Gm.two_1 (c := y) (d := m3) h1)
    have t1 := ne_yes h1
    clear h1
    go_enter Try.func47, Try.ntmps47
    go_wp2_with fail
    refine (Mul_any _ _ _).mono ?_
    rintro e w1 ⟨rfl, k1⟩
    go_wp2_with fail
    go_ret2
    exact ⟨ret_ints H.out.1.symm H.out.2.symm, ((Kept.refl _).alloc _ _).trans k1⟩

set_option maxHeartbeats 1000000 in
theorem moved_0 (m0 m1 m2 m3 m4 m5 x y : Int) (w : World) :
    Calls Try.prog 35 #[.agg #[.int .i64 m0, .int .i64 m1, .int .i64 m2, .int .i64 m3, .int .i64 m4, .int .i64 m5], .int .i64 0, .int .i64 x, .int .i64 y] w fun e w' => e = .returned (.tuple #[.int .i64 (Gm.plsV x m0 y m2 m4), .int .i64 (Gm.plsE x m0 y m2 m4)]) ∧ Kept w w' := by
  by_cases h1 : Gm.twoE x m0 y m2 = 0
  · have H := Lib.hid (Gm.pls_2 (e := m4) h1)
    have t1 := ne_no h1
    clear h1
    go_enter Try.func35, Try.ntmps35
    go_wp2_with fail
    refine (turned_0 m0 m1 m2 m3 m4 m5 _ _ _).mono ?_
    rintro e w1 ⟨rfl, k1⟩
    obtain ⟨c1, f1⟩ := k1.cells
    go_wp2_with fail
    refine (Add_any _ _ _).mono ?_
    rintro e w2 ⟨rfl, k2⟩
    go_wp2_with fail
    go_ret2
    exact ⟨ret_ints H.out.1.symm H.out.2.symm, (((Kept.refl _).alloc _ _).trans k1).trans k2⟩
  · have H := Lib.hid (Gm.pls_1 (e := m4) h1)
    have t1 := ne_yes h1
    clear h1
    go_enter Try.func35, Try.ntmps35
    go_wp2_with fail
    refine (turned_0 m0 m1 m2 m3 m4 m5 _ _ _).mono ?_
    rintro e w1 ⟨rfl, k1⟩
    go_wp2_with fail
    go_ret2
    exact ⟨ret_ints H.out.1.symm H.out.2.symm, ((Kept.refl _).alloc _ _).trans k1⟩

set_option maxHeartbeats 1000000 in
theorem moved_1 (m0 m1 m2 m3 m4 m5 x y : Int) (w : World) :
    Calls Try.prog 35 #[.agg #[.int .i64 m0, .int .i64 m1, .int .i64 m2, .int .i64 m3, .int .i64 m4, .int .i64 m5], .int .i64 1, .int .i64 x, .int .i64 y] w fun e w' => e = .returned (.tuple #[.int .i64 (Gm.plsV x m1 y m3 m5), .int .i64 (Gm.plsE x m1 y m3 m5)]) ∧ Kept w w' := by
  by_cases h1 : Gm.twoE x m1 y m3 = 0
  · have H := Lib.hid (Gm.pls_2 (e := m5) h1)
    have t1 := ne_no h1
    clear h1
    go_enter Try.func35, Try.ntmps35
    go_wp2_with fail
    refine (turned_1 m0 m1 m2 m3 m4 m5 _ _ _).mono ?_
    rintro e w1 ⟨rfl, k1⟩
    obtain ⟨c1, f1⟩ := k1.cells
    go_wp2_with fail
    refine (Add_any _ _ _).mono ?_
    rintro e w2 ⟨rfl, k2⟩
    go_wp2_with fail
    go_ret2
    exact ⟨ret_ints H.out.1.symm H.out.2.symm, (((Kept.refl _).alloc _ _).trans k1).trans k2⟩
  · have H := Lib.hid (Gm.pls_1 (e := m5) h1)
    have t1 := ne_yes h1
    clear h1
    go_enter Try.func35, Try.ntmps35
    go_wp2_with fail
    refine (turned_1 m0 m1 m2 m3 m4 m5 _ _ _).mono ?_
    rintro e w1 ⟨rfl, k1⟩
    go_wp2_with fail
    go_ret2
    exact ⟨ret_ints H.out.1.symm H.out.2.symm, ((Kept.refl _).alloc _ _).trans k1⟩

end Go.Proofs.Ytbckjejflbfjlaa
