/-
  Plain numbers of package geom: what each of its functions answers, as functions on integers. Nothing of the program is named here.
-/
import Derived.Test.YtbckjejflbfjlaaFixRefMath
namespace Go.Proofs.Ytbckjejflbfjlaa.Gm
open Fx

/-- The error that came first. -/
def fst (s e : Int) : Int := if s = 0 then e else s
theorem fst_zero (e : Int) : fst 0 e = e := if_pos rfl
theorem fst_ne {s : Int} (h : s ≠ 0) (e : Int) : fst s e = s := if_neg h
theorem fst_fst (a b c : Int) : fst (fst a b) c = fst a (fst b c) := by
  by_cases h : a = 0
  · rw [h, fst_zero, fst_zero]
  · rw [fst_ne h, fst_ne h, fst_ne h]
theorem fst_eq_zero {a b : Int} : fst a b = 0 ↔ a = 0 ∧ b = 0 := by
  unfold fst; split <;> simp_all

/-- a b + c d. -/
def twoE (a b c d : Int) : Int := fst (fst (mulE a b) (mulE c d)) (addE (mulV a b) (mulV c d))
def twoV (a b c d : Int) : Int := if twoE a b c d = 0 then addV (mulV a b) (mulV c d) else 0
/-- (a b + c d) + e. -/
def plsE (a b c d e : Int) : Int := fst (twoE a b c d) (addE (twoV a b c d) e)
def plsV (a b c d e : Int) : Int := if plsE a b c d e = 0 then addV (twoV a b c d) e else 0

theorem addV_err {a b : Int} (h : addE a b ≠ 0) : addV a b = 0 := by
  unfold addE addV chkE chkV at *
  split at h
  · rename_i k
    rw [if_pos k]
    split at h
    · exact absurd rfl h
    · rename_i k'; exact if_neg k'
  · rename_i k; exact if_neg k
theorem subV_err {a b : Int} (h : subE a b ≠ 0) : subV a b = 0 := by
  unfold subE subV chkE chkV at *
  split at h
  · rename_i k
    rw [if_pos k]
    split at h
    · exact absurd rfl h
    · rename_i k'; exact if_neg k'
  · rename_i k; exact if_neg k
theorem mulV_err {a b : Int} (h : mulE a b ≠ 0) : mulV a b = 0 := by
  unfold mulE mulV chkE chkV at *
  split at h
  · rename_i k
    rw [if_pos k]
    split at h
    · exact absurd rfl h
    · rename_i k'; exact if_neg k'
  · rename_i k; exact if_neg k
theorem divV_err {a b : Int} (h : divE a b ≠ 0) : divV a b = 0 := by
  unfold divE divV chkE chkV at *
  split at h
  · rename_i k
    rw [if_pos k]
    split at h
    · rename_i k'; exact if_pos k'
    · rename_i k'
      rw [if_neg k']
      split at h
      · exact absurd rfl h
      · rename_i k''; exact if_neg k''
  · rename_i k; exact if_neg k

theorem two_1 {a b c d : Int} (h : mulE a b ≠ 0) : twoV a b c d = 0 ∧ twoE a b c d = mulE a b := by
  have e : twoE a b c d = mulE a b := by unfold twoE; rw [fst_fst, fst_ne h]
  exact ⟨by unfold twoV; rw [if_neg (by rw [e]; exact h)], e⟩
theorem two_2 {a b c d : Int} (h : mulE a b = 0) (h' : mulE c d ≠ 0) : twoV a b c d = 0 ∧ twoE a b c d = mulE c d := by
  have e : twoE a b c d = mulE c d := by unfold twoE; rw [fst_fst, h, fst_zero, fst_ne h']
  exact ⟨by unfold twoV; rw [if_neg (by rw [e]; exact h')], e⟩
theorem two_3 {a b c d : Int} (h : mulE a b = 0) (h' : mulE c d = 0) : twoV a b c d = addV (mulV a b) (mulV c d) ∧ twoE a b c d = addE (mulV a b) (mulV c d) := by
  have e : twoE a b c d = addE (mulV a b) (mulV c d) := by unfold twoE; rw [fst_fst, h, fst_zero, h', fst_zero]
  refine ⟨?_, e⟩
  unfold twoV
  split
  · rfl
  · rename_i k; rw [addV_err (by rw [← e]; exact k)]
theorem pls_1 {a b c d e : Int} (h : twoE a b c d ≠ 0) : plsV a b c d e = 0 ∧ plsE a b c d e = twoE a b c d := by
  have k : plsE a b c d e = twoE a b c d := by unfold plsE; rw [fst_ne h]
  exact ⟨by unfold plsV; rw [if_neg (by rw [k]; exact h)], k⟩
theorem pls_2 {a b c d e : Int} (h : twoE a b c d = 0) : plsV a b c d e = addV (twoV a b c d) e ∧ plsE a b c d e = addE (twoV a b c d) e := by
  have k : plsE a b c d e = addE (twoV a b c d) e := by unfold plsE; rw [h, fst_zero]
  refine ⟨?_, k⟩
  unfold plsV
  split
  · rfl
  · rename_i k'; rw [addV_err (by rw [← k]; exact k')]

/-- A place's image. -/
def appE (m0 m1 m2 m3 m4 m5 x y : Int) : Int := fst (plsE x m0 y m2 m4) (plsE x m1 y m3 m5)
def appX (m0 m1 m2 m3 m4 m5 x y : Int) : Int := if appE m0 m1 m2 m3 m4 m5 x y = 0 then plsV x m0 y m2 m4 else 0
def appY (m0 m1 m2 m3 m4 m5 x y : Int) : Int := if appE m0 m1 m2 m3 m4 m5 x y = 0 then plsV x m1 y m3 m5 else 0
theorem app_1 {m0 m1 m2 m3 m4 m5 x y : Int} (h : plsE x m0 y m2 m4 ≠ 0) : appX m0 m1 m2 m3 m4 m5 x y = 0 ∧ appY m0 m1 m2 m3 m4 m5 x y = 0 ∧ appE m0 m1 m2 m3 m4 m5 x y = plsE x m0 y m2 m4 := by
  have e : appE m0 m1 m2 m3 m4 m5 x y = plsE x m0 y m2 m4 := fst_ne h _
  exact ⟨if_neg (by rw [e]; exact h), if_neg (by rw [e]; exact h), e⟩
theorem app_2 {m0 m1 m2 m3 m4 m5 x y : Int} (h : plsE x m0 y m2 m4 = 0) (h' : plsE x m1 y m3 m5 ≠ 0) : appX m0 m1 m2 m3 m4 m5 x y = 0 ∧ appY m0 m1 m2 m3 m4 m5 x y = 0 ∧ appE m0 m1 m2 m3 m4 m5 x y = plsE x m1 y m3 m5 := by
  have e : appE m0 m1 m2 m3 m4 m5 x y = plsE x m1 y m3 m5 := by unfold appE; rw [h, fst_zero]
  exact ⟨if_neg (by rw [e]; exact h'), if_neg (by rw [e]; exact h'), e⟩
theorem app_3 {m0 m1 m2 m3 m4 m5 x y : Int} (h : plsE x m0 y m2 m4 = 0) (h' : plsE x m1 y m3 m5 = 0) : appX m0 m1 m2 m3 m4 m5 x y = plsV x m0 y m2 m4 ∧ appY m0 m1 m2 m3 m4 m5 x y = plsV x m1 y m3 m5 ∧ appE m0 m1 m2 m3 m4 m5 x y = 0 := by
  have e : appE m0 m1 m2 m3 m4 m5 x y = 0 := by unfold appE; rw [h, h', fst_zero]
  exact ⟨if_pos e, if_pos e, e⟩

/-- A rectangle's sizes, its corners in order. -/
def sizE (a b c d : Int) : Int := fst (subE c a) (subE d b)
def sizW (a b c d : Int) : Int := if sizE a b c d = 0 then subV c a else 0
def sizH (a b c d : Int) : Int := if sizE a b c d = 0 then subV d b else 0
theorem siz_1 {a b c d : Int} (h : subE c a ≠ 0) : sizW a b c d = 0 ∧ sizH a b c d = 0 ∧ sizE a b c d = subE c a := by
  have e : sizE a b c d = subE c a := fst_ne h _
  exact ⟨if_neg (by rw [e]; exact h), if_neg (by rw [e]; exact h), e⟩
theorem siz_2 {a b c d : Int} (h : subE c a = 0) (h' : subE d b ≠ 0) : sizW a b c d = 0 ∧ sizH a b c d = 0 ∧ sizE a b c d = subE d b := by
  have e : sizE a b c d = subE d b := by unfold sizE; rw [h, fst_zero]
  exact ⟨if_neg (by rw [e]; exact h'), if_neg (by rw [e]; exact h'), e⟩
theorem siz_3 {a b c d : Int} (h : subE c a = 0) (h' : subE d b = 0) : sizW a b c d = subV c a ∧ sizH a b c d = subV d b ∧ sizE a b c d = 0 := by
  have e : sizE a b c d = 0 := by unfold sizE; rw [h, h', fst_zero]
  exact ⟨if_pos e, if_pos e, e⟩

/-- to - from scale. -/
def shiE (t f s : Int) : Int := fst (mulE f s) (subE t (mulV f s))
def shiV (t f s : Int) : Int := if shiE t f s = 0 then subV t (mulV f s) else 0
theorem shi_1 {t f s : Int} (h : mulE f s ≠ 0) : shiV t f s = 0 ∧ shiE t f s = mulE f s := by
  have e : shiE t f s = mulE f s := fst_ne h _
  exact ⟨if_neg (by rw [e]; exact h), e⟩
theorem shi_2 {t f s : Int} (h : mulE f s = 0) : shiV t f s = subV t (mulV f s) ∧ shiE t f s = subE t (mulV f s) := by
  have e : shiE t f s = subE t (mulV f s) := by unfold shiE; rw [h, fst_zero]
  refine ⟨?_, e⟩
  unfold shiV
  split
  · rfl
  · rename_i k; rw [subV_err (by rw [← e]; exact k)]

/-- A value, if there is no error. -/
def zif (e v : Int) : Int := if e = 0 then v else 0
theorem zif_ok {e : Int} (h : e = 0) (v : Int) : zif e v = v := if_pos h
theorem zif_no {e : Int} (h : e ≠ 0) (v : Int) : zif e v = 0 := if_neg h

/-- The first error of a product of matrices. -/
def matE (m0 m1 m2 m3 m4 m5 n0 n1 n2 n3 n4 n5 : Int) : Int :=
  fst (twoE m0 n0 m1 n2) (fst (twoE m0 n1 m1 n3) (fst (twoE m2 n0 m3 n2) (fst (twoE m2 n1 m3 n3) (fst (plsE m4 n0 m5 n2 n4) (plsE m4 n1 m5 n3 n5)))))

end Go.Proofs.Ytbckjejflbfjlaa.Gm
