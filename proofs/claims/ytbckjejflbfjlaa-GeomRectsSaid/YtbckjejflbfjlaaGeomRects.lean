/-
  What package geom's Meet and Inset answer, whatever they are given.
-/
import Derived.Test.YtbckjejflbfjlaaGeomMeet
import Derived.Test.YtbckjejflbfjlaaGeomInset
namespace Go.Proofs.Ytbckjejflbfjlaa
open Go.RowKit

/-- Is there something left, if each side is moved inwards by h? -/
def Gm.setB (a b c d h : Int) : Bool := decide (Fx.addE (min a c) h = 0) && (decide (Fx.addE (min b d) h = 0) && (decide (Fx.subE (max a c) h = 0) && (decide (Fx.subE (max b d) h = 0) && Gm.insB (Fx.addV (min a c) h) (Fx.addV (min b d) h) (Fx.subV (max a c) h) (Fx.subV (max b d) h))))

theorem Meet_any (a b c d p q r s : Int) (w : World) :
    Calls Try.prog 23 #[.agg #[.int .i64 a, .int .i64 b, .int .i64 c, .int .i64 d], .agg #[.int .i64 p, .int .i64 q, .int .i64 r, .int .i64 s]] w fun e w' => e = .returned (.tuple #[.agg #[.int .i64 (Gm.yif (Gm.insB (max (min a c) (min p r)) (max (min b d) (min q s)) (min (max a c) (max p r)) (min (max b d) (max q s))) (max (min a c) (min p r))), .int .i64 (Gm.yif (Gm.insB (max (min a c) (min p r)) (max (min b d) (min q s)) (min (max a c) (max p r)) (min (max b d) (max q s))) (max (min b d) (min q s))), .int .i64 (Gm.yif (Gm.insB (max (min a c) (min p r)) (max (min b d) (min q s)) (min (max a c) (max p r)) (min (max b d) (max q s))) (min (max a c) (max p r))), .int .i64 (Gm.yif (Gm.insB (max (min a c) (min p r)) (max (min b d) (min q s)) (min (max a c) (max p r)) (min (max b d) (max q s))) (min (max b d) (max q s)))], .bool (Gm.insB (max (min a c) (min p r)) (max (min b d) (min q s)) (min (max a c) (max p r)) (min (max b d) (max q s)))]) ∧ Kept w w' := by
  cases h : Gm.insB (max (min a c) (min p r)) (max (min b d) (min q s)) (min (max a c) (max p r)) (min (max b d) (max q s))
  · simp only [Gm.yif_no rfl]
    exact Meet_no a b c d p q r s w h
  · simp only [Gm.yif_ok rfl]
    exact Meet_yes a b c d p q r s w h

theorem Inset_any (a b c d h : Int) (w : World) :
    Calls Try.prog 25 #[.agg #[.int .i64 a, .int .i64 b, .int .i64 c, .int .i64 d], .int .i64 h] w fun e w' => e = .returned (.tuple #[.agg #[.int .i64 (Gm.yif (Gm.setB a b c d h) (Fx.addV (min a c) h)), .int .i64 (Gm.yif (Gm.setB a b c d h) (Fx.addV (min b d) h)), .int .i64 (Gm.yif (Gm.setB a b c d h) (Fx.subV (max a c) h)), .int .i64 (Gm.yif (Gm.setB a b c d h) (Fx.subV (max b d) h))], .bool (Gm.setB a b c d h)]) ∧ Kept w w' := by
  by_cases h0 : Fx.addE (min a c) h = 0
  · by_cases h1 : Fx.addE (min b d) h = 0
    · by_cases h2 : Fx.subE (max a c) h = 0
      · by_cases h3 : Fx.subE (max b d) h = 0
        · cases hi : Gm.insB (Fx.addV (min a c) h) (Fx.addV (min b d) h) (Fx.subV (max a c) h) (Fx.subV (max b d) h)
          · have k : Gm.setB a b c d h = false := by unfold Gm.setB; rw [hi]; simp
            rw [k]
            simp only [Gm.yif_no rfl]
            exact Inset_out a b c d h w h0 h1 h2 h3 hi
          · have k : Gm.setB a b c d h = true := by unfold Gm.setB; rw [hi, decide_eq_true h0, decide_eq_true h1, decide_eq_true h2, decide_eq_true h3]; rfl
            rw [k]
            simp only [Gm.yif_ok rfl]
            exact Inset_yes a b c d h w h0 h1 h2 h3 hi
        · have k : Gm.setB a b c d h = false := by unfold Gm.setB; rw [decide_eq_false h3]; simp
          rw [k]
          simp only [Gm.yif_no rfl]
          exact Inset_e3 a b c d h w h0 h1 h2 h3
      · have k : Gm.setB a b c d h = false := by unfold Gm.setB; rw [decide_eq_false h2]; simp
        rw [k]
        simp only [Gm.yif_no rfl]
        exact Inset_e2 a b c d h w h0 h1 h2
    · have k : Gm.setB a b c d h = false := by unfold Gm.setB; rw [decide_eq_false h1]; simp
      rw [k]
      simp only [Gm.yif_no rfl]
      exact Inset_e1 a b c d h w h0 h1
  · have k : Gm.setB a b c d h = false := by unfold Gm.setB; rw [decide_eq_false h0]; rfl
    rw [k]
    simp only [Gm.yif_no rfl]
    exact Inset_e0 a b c d h w h0

end Go.Proofs.Ytbckjejflbfjlaa
