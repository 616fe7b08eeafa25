/-
  Plain numbers behind the reference's matrices: the first error of a chain, and what was reckoned on the way.
-/
import Derived.Test.YtbckjejflbfjlaaGeomRefCalc
import Derived.Test.YtbckjejflbfjlaaGeomPlaceMath
namespace Go.Proofs.Ytbckjejflbfjlaa.Gm
open Fx

theorem pls_raw (a b c d e : Int) : fst (twoE a b c d) (addE (twoW a b c d) e) = plsE a b c d e := by
  unfold plsE
  by_cases h : twoE a b c d = 0
  · rw [twoW_ok h]
  · rw [fst_ne h, fst_ne h]
theorem pls_val {a b c d e : Int} (h : plsE a b c d e = 0) : addV (twoW a b c d) e = plsV a b c d e := by
  have k := (fst_eq_zero.1 h).1
  rw [twoW_ok k]
  unfold plsV
  rw [if_pos h]
theorem app_raw (m0 m1 m2 m3 m4 m5 x y : Int) : fst (fst (fst (fst 0 (twoE x m0 y m2)) (addE (twoW x m0 y m2) m4)) (twoE x m1 y m3)) (addE (twoW x m1 y m3) m5) = appE m0 m1 m2 m3 m4 m5 x y := by
  rw [fst_zero, fst_fst, pls_raw, pls_raw]; rfl
theorem mat_raw (m0 m1 m2 m3 m4 m5 n0 n1 n2 n3 n4 n5 : Int) : fst (fst (fst (fst (fst (fst (fst (fst 0 (twoE m0 n0 m1 n2)) (twoE m0 n1 m1 n3)) (twoE m2 n0 m3 n2)) (twoE m2 n1 m3 n3)) (twoE m4 n0 m5 n2)) (addE (twoW m4 n0 m5 n2) n4)) (twoE m4 n1 m5 n3)) (addE (twoW m4 n1 m5 n3) n5) = matE m0 m1 m2 m3 m4 m5 n0 n1 n2 n3 n4 n5 := by
  unfold matE
  rw [fst_zero, fst_fst _ (twoE m4 n1 m5 n3), pls_raw, fst_fst _ (twoE m4 n0 m5 n2), pls_raw, fst_fst, fst_fst, fst_fst, fst_fst]
theorem mat_zero {m0 m1 m2 m3 m4 m5 n0 n1 n2 n3 n4 n5 : Int} (h : matE m0 m1 m2 m3 m4 m5 n0 n1 n2 n3 n4 n5 = 0) :
    twoE m0 n0 m1 n2 = 0 ∧ twoE m0 n1 m1 n3 = 0 ∧ twoE m2 n0 m3 n2 = 0 ∧ twoE m2 n1 m3 n3 = 0 ∧ plsE m4 n0 m5 n2 n4 = 0 ∧ plsE m4 n1 m5 n3 n5 = 0 := by
  unfold matE at h
  rw [fst_eq_zero, fst_eq_zero, fst_eq_zero, fst_eq_zero, fst_eq_zero] at h
  exact h

end Go.Proofs.Ytbckjejflbfjlaa.Gm
