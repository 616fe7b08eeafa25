/-
  Plain numbers of package geom: what each of its functions answers, as functions on integers. Nothing of the program is named here.
  What package geom's smaller functions answer.
  What package geom's Apply and shift answer.
-/
import Derived.Test.YtbgdeaeikijdgaaGreatDoorFixRefMath
import Derived.Test.YtbgdeaeikijdgaaGreatDoorFixW
namespace Go.Proofs.YtbgdeaeikijdgaaGreatDoor.Gm
open Fx

/-- The error that came first. -/
def fst (s e : Int) : Int := if s = 0 then e else s
theorem fst_zero (e : Int) : fst 0 e = e := if_pos rfl
theorem fst_ne {s : Int} (h : s ≠ 0) (e : Int) : fst s e = s := if_neg h
theorem fst_fst (a b c : Int) : fst (fst a b) c = fst a (fst b c) := by
  by_cases h : a = 0
  · rw [h, fst_zero, fst_zero]
  · rw [fst_ne h, fst_ne h, fst_ne h]
theorem fst_eq_zero {a b : Int} : fst a b = 0 ↔ a = 0 ∧ b = 0 := by
  unfold fst; split <;> simp_all

/-- a b + c d. -/
def twoE (a b c d : Int) : Int := fst (fst (mulE a b) (mulE c d)) (addE (mulV a b) (mulV c d))
def twoV (a b c d : Int) : Int := if twoE a b c d = 0 then addV (mulV a b) (mulV c d) else 0
/-- (a b + c d) + e. -/
def plsE (a b c d e : Int) : Int := fst (twoE a b c d) (addE (twoV a b c d) e)
def plsV (a b c d e : Int) : Int := if plsE a b c d e = 0 then addV (twoV a b c d) e else 0

theorem addV_err {a b : Int} (h : addE a b ≠ 0) : addV a b = 0 := by
  unfold addE addV chkE chkV at *
  split at h
  · rename_i k
    rw [if_pos k]
    split at h
    · exact absurd rfl h
    · rename_i k'; exact if_neg k'
  · rename_i k; exact if_neg k
theorem subV_err {a b : Int} (h : subE a b ≠ 0) : subV a b = 0 := by
  unfold subE subV chkE chkV at *
  split at h
  · rename_i k
    rw [if_pos k]
    split at h
    · exact absurd rfl h
    · rename_i k'; exact if_neg k'
  · rename_i k; exact if_neg k
theorem mulV_err {a b : Int} (h : mulE a b ≠ 0) : mulV a b = 0 := by
  unfold mulE mulV chkE chkV at *
  split at h
  · rename_i k
    rw [if_pos k]
    split at h
    · exact absurd rfl h
    · rename_i k'; exact if_neg k'
  · rename_i k; exact if_neg k
theorem divV_err {a b : Int} (h : divE a b ≠ 0) : divV a b = 0 := by
  unfold divE divV chkE chkV at *
  split at h
  · rename_i k
    rw [if_pos k]
    split at h
    · rename_i k'; exact if_pos k'
    · rename_i k'
      rw [if_neg k']
      split at h
      · exact absurd rfl h
      · rename_i k''; exact if_neg k''
  · rename_i k; exact if_neg k

theorem two_1 {a b c d : Int} (h : mulE a b ≠ 0) : twoV a b c d = 0 ∧ twoE a b c d = mulE a b := by
  have e : twoE a b c d = mulE a b := by unfold twoE; rw [fst_fst, fst_ne h]
  exact ⟨by unfold twoV; rw [if_neg (by rw [e]; exact h)], e⟩
theorem two_2 {a b c d : Int} (h : mulE a b = 0) (h' : mulE c d ≠ 0) : twoV a b c d = 0 ∧ twoE a b c d = mulE c d := by
  have e : twoE a b c d = mulE c d := by unfold twoE; rw [fst_fst, h, fst_zero, fst_ne h']
  exact ⟨by unfold twoV; rw [if_neg (by rw [e]; exact h')], e⟩
theorem two_3 {a b c d : Int} (h : mulE a b = 0) (h' : mulE c d = 0) : twoV a b c d = addV (mulV a b) (mulV c d) ∧ twoE a b c d = addE (mulV a b) (mulV c d) := by
  have e : twoE a b c d = addE (mulV a b) (mulV c d) := by unfold twoE; rw [fst_fst, h, fst_zero, h', fst_zero]
  refine ⟨?_, e⟩
  unfold twoV
  split
  · rfl
  · rename_i k; rw [addV_err (by rw [← e]; exact k)]
theorem pls_1 {a b c d e : Int} (h : twoE a b c d ≠ 0) : plsV a b c d e = 0 ∧ plsE a b c d e = twoE a b c d := by
  have k : plsE a b c d e = twoE a b c d := by unfold plsE; rw [fst_ne h]
  exact ⟨by unfold plsV; rw [if_neg (by rw [k]; exact h)], k⟩
theorem pls_2 {a b c d e : Int} (h : twoE a b c d = 0) : plsV a b c d e = addV (twoV a b c d) e ∧ plsE a b c d e = addE (twoV a b c d) e := by
  have k : plsE a b c d e = addE (twoV a b c d) e := by unfold plsE; rw [h, fst_zero]
  refine ⟨?_, k⟩
  unfold plsV
  split
  · rfl
  · rename_i k'; rw [addV_err (by rw [← k]; exact k')]

/-- A place's image. -/
def appE (m0 m1 m2 m3 m4 m5 x y : Int) : Int := fst (plsE x m0 y m2 m4) (plsE x m1 y m3 m5)
def appX (m0 m1 m2 m3 m4 m5 x y : Int) : Int := if appE m0 m1 m2 m3 m4 m5 x y = 0 then plsV x m0 y m2 m4 else 0
def appY (m0 m1 m2 m3 m4 m5 x y : Int) : Int := if appE m0 m1 m2 m3 m4 m5 x y = 0 then plsV x m1 y m3 m5 else 0
theorem app_1 {m0 m1 m2 m3 m4 m5 x y : Int} (h : plsE x m0 y m2 m4 ≠ 0) : appX m0 m1 m2 m3 m4 m5 x y = 0 ∧ appY m0 m1 m2 m3 m4 m5 x y = 0 ∧ appE m0 m1 m2 m3 m4 m5 x y = plsE x m0 y m2 m4 := by
  have e : appE m0 m1 m2 m3 m4 m5 x y = plsE x m0 y m2 m4 := fst_ne h _
  exact ⟨if_neg (by rw [e]; exact h), if_neg (by rw [e]; exact h), e⟩
theorem app_2 {m0 m1 m2 m3 m4 m5 x y : Int} (h : plsE x m0 y m2 m4 = 0) (h' : plsE x m1 y m3 m5 ≠ 0) : appX m0 m1 m2 m3 m4 m5 x y = 0 ∧ appY m0 m1 m2 m3 m4 m5 x y = 0 ∧ appE m0 m1 m2 m3 m4 m5 x y = plsE x m1 y m3 m5 := by
  have e : appE m0 m1 m2 m3 m4 m5 x y = plsE x m1 y m3 m5 := by unfold appE; rw [h, fst_zero]
  exact ⟨if_neg (by rw [e]; exact h'), if_neg (by rw [e]; exact h'), e⟩
theorem app_3 {m0 m1 m2 m3 m4 m5 x y : Int} (h : plsE x m0 y m2 m4 = 0) (h' : plsE x m1 y m3 m5 = 0) : appX m0 m1 m2 m3 m4 m5 x y = plsV x m0 y m2 m4 ∧ appY m0 m1 m2 m3 m4 m5 x y = plsV x m1 y m3 m5 ∧ appE m0 m1 m2 m3 m4 m5 x y = 0 := by
  have e : appE m0 m1 m2 m3 m4 m5 x y = 0 := by unfold appE; rw [h, h', fst_zero]
  exact ⟨if_pos e, if_pos e, e⟩

/-- A rectangle's sizes, its corners in order. -/
def sizE (a b c d : Int) : Int := fst (subE c a) (subE d b)
def sizW (a b c d : Int) : Int := if sizE a b c d = 0 then subV c a else 0
def sizH (a b c d : Int) : Int := if sizE a b c d = 0 then subV d b else 0
theorem siz_1 {a b c d : Int} (h : subE c a ≠ 0) : sizW a b c d = 0 ∧ sizH a b c d = 0 ∧ sizE a b c d = subE c a := by
  have e : sizE a b c d = subE c a := fst_ne h _
  exact ⟨if_neg (by rw [e]; exact h), if_neg (by rw [e]; exact h), e⟩
theorem siz_2 {a b c d : Int} (h : subE c a = 0) (h' : subE d b ≠ 0) : sizW a b c d = 0 ∧ sizH a b c d = 0 ∧ sizE a b c d = subE d b := by
  have e : sizE a b c d = subE d b := by unfold sizE; rw [h, fst_zero]
  exact ⟨if_neg (by rw [e]; exact h'), if_neg (by rw [e]; exact h'), e⟩
theorem siz_3 {a b c d : Int} (h : subE c a = 0) (h' : subE d b = 0) : sizW a b c d = subV c a ∧ sizH a b c d = subV d b ∧ sizE a b c d = 0 := by
  have e : sizE a b c d = 0 := by unfold sizE; rw [h, h', fst_zero]
  exact ⟨if_pos e, if_pos e, e⟩

/-- to - from scale. -/
def shiE (t f s : Int) : Int := fst (mulE f s) (subE t (mulV f s))
def shiV (t f s : Int) : Int := if shiE t f s = 0 then subV t (mulV f s) else 0
theorem shi_1 {t f s : Int} (h : mulE f s ≠ 0) : shiV t f s = 0 ∧ shiE t f s = mulE f s := by
  have e : shiE t f s = mulE f s := fst_ne h _
  exact ⟨if_neg (by rw [e]; exact h), e⟩
theorem shi_2 {t f s : Int} (h : mulE f s = 0) : shiV t f s = subV t (mulV f s) ∧ shiE t f s = subE t (mulV f s) := by
  have e : shiE t f s = subE t (mulV f s) := by unfold shiE; rw [h, fst_zero]
  refine ⟨?_, e⟩
  unfold shiV
  split
  · rfl
  · rename_i k; rw [subV_err (by rw [← e]; exact k)]

/-- A value, if there is no error. -/
def zif (e v : Int) : Int := if e = 0 then v else 0
theorem zif_ok {e : Int} (h : e = 0) (v : Int) : zif e v = v := if_pos h
theorem zif_no {e : Int} (h : e ≠ 0) (v : Int) : zif e v = 0 := if_neg h

/-- The first error of a product of matrices. -/
def matE (m0 m1 m2 m3 m4 m5 n0 n1 n2 n3 n4 n5 : Int) : Int :=
  fst (twoE m0 n0 m1 n2) (fst (twoE m0 n1 m1 n3) (fst (twoE m2 n0 m3 n2) (fst (twoE m2 n1 m3 n3) (fst (plsE m4 n0 m5 n2 n4) (plsE m4 n1 m5 n3 n5)))))

end Go.Proofs.YtbgdeaeikijdgaaGreatDoor.Gm

namespace Go.Proofs.YtbgdeaeikijdgaaGreatDoor
open Go.RowKit

theorem run_least {P : Program} {w : World} (ts : Array TypeId) (t : TypeId) (k k' : IntKind) (x y : Int) : (Builtin.min_ ts t #[.int k x, .int k' y]).run P w = .ok (.int k (min x y)) w := by
  rw [run_min_int2]; congr 2; split <;> omega
theorem run_greatest {P : Program} {w : World} (ts : Array TypeId) (t : TypeId) (k k' : IntKind) (x y : Int) : (Builtin.max_ ts t #[.int k x, .int k' y]).run P w = .ok (.int k (max x y)) w := by
  rw [run_max_int2]; congr 2; split <;> omega
attribute [local go_sem ↓] run_least run_greatest

theorem ret_ints3 {a b c d e f : Int} (h : a = b) (h' : c = d) (h'' : e = f) : Ending.returned (.tuple #[.int .i64 a, .int .i64 c, .int .i64 e]) = .returned (.tuple #[.int .i64 b, .int .i64 d, .int .i64 f]) := by rw [h, h', h'']
theorem ne_no {a : Int} (h : a = 0) : (a != 0) = false := by rw [h]; rfl
theorem ne_yes {a : Int} (h : ¬ a = 0) : (a != 0) = true := bne_iff_ne.2 h

set_option maxHeartbeats 400000 in
theorem Unit_any (w : World) :
    Calls Tryz.prog 13 #[] w fun e w' => e = .returned (.agg #[.int .i64 1000, .int .i64 0, .int .i64 0, .int .i64 1000, .int .i64 0, .int .i64 0]) ∧ Kept w w' := by
  go_enter Tryz.func13, Tryz.ntmps13
  go_wp2
  exact bodyPost_ret (v := .agg #[.int .i64 1000, .int .i64 0, .int .i64 0, .int .i64 1000, .int .i64 0, .int .i64 0]) (by simp [results, Tryz.results13, go_sem]) rfl ⟨rfl, (Kept.refl _).alloc _ _⟩

set_option maxHeartbeats 400000 in
theorem Norm_any (a b c d : Int) (w : World) :
    Calls Tryz.prog 189 #[.agg #[.int .i64 a, .int .i64 b, .int .i64 c, .int .i64 d]] w fun e w' => e = .returned (.agg #[.int .i64 (min a c), .int .i64 (min b d), .int .i64 (max a c), .int .i64 (max b d)]) ∧ Kept w w' := by
  go_enter Tryz.func189, Tryz.ntmps189
  go_wp2
  exact bodyPost_ret (v := .agg #[.int .i64 (min a c), .int .i64 (min b d), .int .i64 (max a c), .int .i64 (max b d)]) (by simp [results, Tryz.results189, go_sem]) rfl ⟨rfl, ((Kept.refl _).alloc _ _).alloc _ _⟩

set_option maxHeartbeats 1000000 in
theorem turned_0 (m0 m1 m2 m3 m4 m5 x y : Int) (w : World) :
    Calls Tryz.prog 125 #[.agg #[.int .i64 m0, .int .i64 m1, .int .i64 m2, .int .i64 m3, .int .i64 m4, .int .i64 m5], .int .i64 0, .int .i64 x, .int .i64 y] w fun e w' => e = .returned (.tuple #[.int .i64 (Gm.twoV x m0 y m2), .int .i64 (Gm.twoE x m0 y m2)]) ∧ Kept w w' := by
  by_cases h1 : Fx.mulE x m0 = 0
  · by_cases h2 : Fx.mulE y m2 = 0
    · have H := Lib.hid (Gm.two_3 h1 h2)
      have t1 := ne_no h1
      have t2 := ne_no h2
      clear h1 h2
      go_enter Tryz.func125, Tryz.ntmps125
      go_wp2_with fail
      refine (Mul_any _ _ _).mono ?_
      rintro e w1 ⟨rfl, k1⟩
      obtain ⟨c1, f1⟩ := k1.cells
      go_wp2_with fail
      refine (Mul_any _ _ _).mono ?_
      rintro e w2 ⟨rfl, k2⟩
      go_wp2_with fail
      refine (Add_any _ _ _).mono ?_
      rintro e w3 ⟨rfl, k3⟩
      go_wp2_with fail
      go_ret2
      exact ⟨ret_ints H.out.1.symm H.out.2.symm, (((Kept.refl _).alloc _ _).trans k1).trans (k2.trans k3)⟩
    · have H := Lib.hid (Gm.two_2 h1 h2)
      have t1 := ne_no h1
      have t2 := ne_yes h2
      clear h1 h2
      go_enter Tryz.func125, Tryz.ntmps125
      go_wp2_with fail
      refine (Mul_any _ _ _).mono ?_
      rintro e w1 ⟨rfl, k1⟩
      obtain ⟨c1, f1⟩ := k1.cells
      go_wp2_with fail
      refine (Mul_any _ _ _).mono ?_
      rintro e w2 ⟨rfl, k2⟩
      go_wp2_with fail
      go_ret2
      exact ⟨ret_ints H.out.1.symm H.out.2.symm, (((Kept.refl _).alloc _ _).trans k1).trans k2⟩
  · have H := Lib.hid (Gm.two_1 (c := y) (d := m2) h1)
    have t1 := ne_yes h1
    clear h1
    go_enter Tryz.func125, Tryz.ntmps125
    go_wp2_with fail
    refine (Mul_any _ _ _).mono ?_
    rintro e w1 ⟨rfl, k1⟩
    go_wp2_with fail
    go_ret2
    exact ⟨ret_ints H.out.1.symm H.out.2.symm, ((Kept.refl _).alloc _ _).trans k1⟩

set_option maxHeartbeats 1000000 in
theorem turned_1 (m0 m1 m2 m3 m4 m5 x y : Int) (w : World) :
    Calls Tryz.prog 125 #[.agg #[.int .i64 m0, .int .i64 m1, .int .i64 m2, .int .i64 m3, .int .i64 m4, .int .i64 m5], .int .i64 1, .int .i64 x, .int .i64 y] w fun e w' => e = .returned (.tuple #[.int .i64 (Gm.twoV x m1 y m3), .int .i64 (Gm.twoE x m1 y m3)]) ∧ Kept w w' := by
  by_cases h1 : Fx.mulE x m1 = 0
  · by_cases h2 : Fx.mulE y m3 = 0
    · have H := Lib.hid (Gm.two_3 h1 h2)
      have t1 := ne_no h1
      have t2 := ne_no h2
      clear h1 h2
      go_enter Tryz.func125, Tryz.ntmps125
      go_wp2_with fail
      refine (Mul_any _ _ _).mono ?_
      rintro e w1 ⟨rfl, k1⟩
      obtain ⟨c1, f1⟩ := k1.cells
      go_wp2_with fail
      refine (Mul_any _ _ _).mono ?_
      rintro e w2 ⟨rfl, k2⟩
      go_wp2_with fail
      refine (Add_any _ _ _).mono ?_
      rintro e w3 ⟨rfl, k3⟩
      go_wp2_with fail
      go_ret2
      exact ⟨ret_ints H.out.1.symm H.out.2.symm, (((Kept.refl _).alloc _ _).trans k1).trans (k2.trans k3)⟩
    · have H := Lib.hid (Gm.two_2 h1 h2)
      have t1 := ne_no h1
      have t2 := ne_yes h2
      clear h1 h2
      go_enter Tryz.func125, Tryz.ntmps125
      go_wp2_with fail
      refine (Mul_any _ _ _).mono ?_
      rintro e w1 ⟨rfl, k1⟩
      obtain ⟨c1, f1⟩ := k1.cells
      go_wp2_with fail
      refine (Mul_any _ _ _).mono ?_
      rintro e w2 ⟨rfl, k2⟩
      go_wp2_with fail
      go_ret2
      exact ⟨ret_ints H.out.1.symm H.out.2.symm, (((Kept.refl _).alloc _ _).trans k1).trans k2⟩
  · have H := Lib.hid (Gm.two_1 (c := y) (d := m3) h1)
    have t1 := ne_yes h1
    clear h1
    go_enter Tryz.func125, Tryz.ntmps125
    go_wp2_with fail
    refine (Mul_any _ _ _).mono ?_
    rintro e w1 ⟨rfl, k1⟩
    go_wp2_with fail
    go_ret2
    exact ⟨ret_ints H.out.1.symm H.out.2.symm, ((Kept.refl _).alloc _ _).trans k1⟩

set_option maxHeartbeats 1000000 in
theorem moved_0 (m0 m1 m2 m3 m4 m5 x y : Int) (w : World) :
    Calls Tryz.prog 124 #[.agg #[.int .i64 m0, .int .i64 m1, .int .i64 m2, .int .i64 m3, .int .i64 m4, .int .i64 m5], .int .i64 0, .int .i64 x, .int .i64 y] w fun e w' => e = .returned (.tuple #[.int .i64 (Gm.plsV x m0 y m2 m4), .int .i64 (Gm.plsE x m0 y m2 m4)]) ∧ Kept w w' := by
  by_cases h1 : Gm.twoE x m0 y m2 = 0
  · have H := Lib.hid (Gm.pls_2 (e := m4) h1)
    have t1 := ne_no h1
    clear h1
    go_enter Tryz.func124, Tryz.ntmps124
    go_wp2_with fail
    refine (turned_0 m0 m1 m2 m3 m4 m5 _ _ _).mono ?_
    rintro e w1 ⟨rfl, k1⟩
    obtain ⟨c1, f1⟩ := k1.cells
    go_wp2_with fail
    refine (Add_any _ _ _).mono ?_
    rintro e w2 ⟨rfl, k2⟩
    go_wp2_with fail
    go_ret2
    exact ⟨ret_ints H.out.1.symm H.out.2.symm, (((Kept.refl _).alloc _ _).trans k1).trans k2⟩
  · have H := Lib.hid (Gm.pls_1 (e := m4) h1)
    have t1 := ne_yes h1
    clear h1
    go_enter Tryz.func124, Tryz.ntmps124
    go_wp2_with fail
    refine (turned_0 m0 m1 m2 m3 m4 m5 _ _ _).mono ?_
    rintro e w1 ⟨rfl, k1⟩
    go_wp2_with fail
    go_ret2
    exact ⟨ret_ints H.out.1.symm H.out.2.symm, ((Kept.refl _).alloc _ _).trans k1⟩

set_option maxHeartbeats 1000000 in
theorem moved_1 (m0 m1 m2 m3 m4 m5 x y : Int) (w : World) :
    Calls Tryz.prog 124 #[.agg #[.int .i64 m0, .int .i64 m1, .int .i64 m2, .int .i64 m3, .int .i64 m4, .int .i64 m5], .int .i64 1, .int .i64 x, .int .i64 y] w fun e w' => e = .returned (.tuple #[.int .i64 (Gm.plsV x m1 y m3 m5), .int .i64 (Gm.plsE x m1 y m3 m5)]) ∧ Kept w w' := by
  by_cases h1 : Gm.twoE x m1 y m3 = 0
  · have H := Lib.hid (Gm.pls_2 (e := m5) h1)
    have t1 := ne_no h1
    clear h1
    go_enter Tryz.func124, Tryz.ntmps124
    go_wp2_with fail
    refine (turned_1 m0 m1 m2 m3 m4 m5 _ _ _).mono ?_
    rintro e w1 ⟨rfl, k1⟩
    obtain ⟨c1, f1⟩ := k1.cells
    go_wp2_with fail
    refine (Add_any _ _ _).mono ?_
    rintro e w2 ⟨rfl, k2⟩
    go_wp2_with fail
    go_ret2
    exact ⟨ret_ints H.out.1.symm H.out.2.symm, (((Kept.refl _).alloc _ _).trans k1).trans k2⟩
  · have H := Lib.hid (Gm.pls_1 (e := m5) h1)
    have t1 := ne_yes h1
    clear h1
    go_enter Tryz.func124, Tryz.ntmps124
    go_wp2_with fail
    refine (turned_1 m0 m1 m2 m3 m4 m5 _ _ _).mono ?_
    rintro e w1 ⟨rfl, k1⟩
    go_wp2_with fail
    go_ret2
    exact ⟨ret_ints H.out.1.symm H.out.2.symm, ((Kept.refl _).alloc _ _).trans k1⟩

end Go.Proofs.YtbgdeaeikijdgaaGreatDoor

namespace Go.Proofs.YtbgdeaeikijdgaaGreatDoor
open Go.RowKit

set_option maxHeartbeats 1000000 in
theorem Apply_any (m0 m1 m2 m3 m4 m5 x y : Int) (w : World) :
    Calls Tryz.prog 87 #[.agg #[.int .i64 m0, .int .i64 m1, .int .i64 m2, .int .i64 m3, .int .i64 m4, .int .i64 m5], .int .i64 x, .int .i64 y] w fun e w' => e = .returned (.tuple #[.int .i64 (Gm.appX m0 m1 m2 m3 m4 m5 x y), .int .i64 (Gm.appY m0 m1 m2 m3 m4 m5 x y), .int .i64 (Gm.appE m0 m1 m2 m3 m4 m5 x y)]) ∧ Kept w w' := by
  by_cases h1 : Gm.plsE x m0 y m2 m4 = 0
  · by_cases h2 : Gm.plsE x m1 y m3 m5 = 0
    · have H := Lib.hid (Gm.app_3 h1 h2)
      have t1 := ne_no h1
      have t2 := ne_no h2
      clear h1 h2
      go_enter Tryz.func87, Tryz.ntmps87
      go_wp2_with fail
      refine (moved_0 m0 m1 m2 m3 m4 m5 _ _ _).mono ?_
      rintro e w1 ⟨rfl, k1⟩
      obtain ⟨c1, f1⟩ := k1.cells
      go_wp2_with fail
      refine (moved_1 m0 m1 m2 m3 m4 m5 _ _ _).mono ?_
      rintro e w2 ⟨rfl, k2⟩
      go_wp2_with fail
      go_ret3
      exact ⟨ret_ints3 H.out.1.symm H.out.2.1.symm H.out.2.2.symm, (((Kept.refl _).alloc _ _).trans k1).trans k2⟩
    · have H := Lib.hid (Gm.app_2 h1 h2)
      have t1 := ne_no h1
      have t2 := ne_yes h2
      clear h1 h2
      go_enter Tryz.func87, Tryz.ntmps87
      go_wp2_with fail
      refine (moved_0 m0 m1 m2 m3 m4 m5 _ _ _).mono ?_
      rintro e w1 ⟨rfl, k1⟩
      obtain ⟨c1, f1⟩ := k1.cells
      go_wp2_with fail
      refine (moved_1 m0 m1 m2 m3 m4 m5 _ _ _).mono ?_
      rintro e w2 ⟨rfl, k2⟩
      go_wp2_with fail
      go_ret3
      exact ⟨ret_ints3 H.out.1.symm H.out.2.1.symm H.out.2.2.symm, (((Kept.refl _).alloc _ _).trans k1).trans k2⟩
  · have H := Lib.hid (Gm.app_1 (m1 := m1) (m3 := m3) (m5 := m5) h1)
    have t1 := ne_yes h1
    clear h1
    go_enter Tryz.func87, Tryz.ntmps87
    go_wp2_with fail
    refine (moved_0 m0 m1 m2 m3 m4 m5 _ _ _).mono ?_
    rintro e w1 ⟨rfl, k1⟩
    go_wp2_with fail
    go_ret3
    exact ⟨ret_ints3 H.out.1.symm H.out.2.1.symm H.out.2.2.symm, ((Kept.refl _).alloc _ _).trans k1⟩

end Go.Proofs.YtbgdeaeikijdgaaGreatDoor
