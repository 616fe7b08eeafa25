/-
  Plain numbers behind package geom's Place.
-/
import Derived.Test.YtbckjejflbfjlaaGeomBoundsMath
namespace Go.Proofs.Ytbckjejflbfjlaa.Gm
open Fx

/-- How many times as wide and as high the second rectangle is as the first. -/
def scE (a b c d p q r s : Int) : Int := fst4 (sizE (min a c) (min b d) (max a c) (max b d)) (sizE (min p r) (min q s) (max p r) (max q s)) (divE (sizW (min p r) (min q s) (max p r) (max q s)) (sizW (min a c) (min b d) (max a c) (max b d))) (divE (sizH (min p r) (min q s) (max p r) (max q s)) (sizH (min a c) (min b d) (max a c) (max b d)))
def scX (a b c d p q r s : Int) : Int := zif (scE a b c d p q r s) (divV (sizW (min p r) (min q s) (max p r) (max q s)) (sizW (min a c) (min b d) (max a c) (max b d)))
def scY (a b c d p q r s : Int) : Int := zif (scE a b c d p q r s) (divV (sizH (min p r) (min q s) (max p r) (max q s)) (sizH (min a c) (min b d) (max a c) (max b d)))
theorem sc_err {a b c d p q r s e : Int} (h : scE a b c d p q r s = e) (he : ¬ e = 0) : scX a b c d p q r s = 0 ∧ scY a b c d p q r s = 0 ∧ scE a b c d p q r s = e := by
  have k : scE a b c d p q r s ≠ 0 := by rw [h]; exact he
  exact ⟨zif_no k _, zif_no k _, h⟩
theorem sc_ok {a b c d p q r s : Int} (h0 : sizE (min a c) (min b d) (max a c) (max b d) = 0) (h1 : sizE (min p r) (min q s) (max p r) (max q s) = 0) (h2 : divE (sizW (min p r) (min q s) (max p r) (max q s)) (sizW (min a c) (min b d) (max a c) (max b d)) = 0) (h3 : divE (sizH (min p r) (min q s) (max p r) (max q s)) (sizH (min a c) (min b d) (max a c) (max b d)) = 0) : scX a b c d p q r s = divV (sizW (min p r) (min q s) (max p r) (max q s)) (sizW (min a c) (min b d) (max a c) (max b d)) ∧ scY a b c d p q r s = divV (sizH (min p r) (min q s) (max p r) (max q s)) (sizH (min a c) (min b d) (max a c) (max b d)) ∧ scE a b c d p q r s = 0 := by
  have k : scE a b c d p q r s = 0 := by unfold scE; rw [fst4_3 h0 h1 h2]; exact h3
  exact ⟨zif_ok k _, zif_ok k _, k⟩

/-- The matrix that brings a box, whose image's rectangle is a b c d (with the error z), to p q r s. -/
def plE (z a b c d p q r s : Int) : Int := fst4 z (scE a b c d (min p r) (min q s) (max p r) (max q s)) (shiE (min p r) a (scX a b c d (min p r) (min q s) (max p r) (max q s))) (shiE (min q s) b (scY a b c d (min p r) (min q s) (max p r) (max q s)))
def plX (z a b c d p q r s : Int) : Int := zif (plE z a b c d p q r s) (scX a b c d (min p r) (min q s) (max p r) (max q s))
def plY (z a b c d p q r s : Int) : Int := zif (plE z a b c d p q r s) (scY a b c d (min p r) (min q s) (max p r) (max q s))
def plS (z a b c d p q r s : Int) : Int := zif (plE z a b c d p q r s) (shiV (min p r) a (scX a b c d (min p r) (min q s) (max p r) (max q s)))
def plT (z a b c d p q r s : Int) : Int := zif (plE z a b c d p q r s) (shiV (min q s) b (scY a b c d (min p r) (min q s) (max p r) (max q s)))
theorem pl_err {z a b c d p q r s e : Int} (h : plE z a b c d p q r s = e) (he : ¬ e = 0) : plX z a b c d p q r s = 0 ∧ plY z a b c d p q r s = 0 ∧ plS z a b c d p q r s = 0 ∧ plT z a b c d p q r s = 0 ∧ plE z a b c d p q r s = e := by
  have k : plE z a b c d p q r s ≠ 0 := by rw [h]; exact he
  exact ⟨zif_no k _, zif_no k _, zif_no k _, zif_no k _, h⟩
theorem pl_ok {z a b c d p q r s : Int} (h : plE z a b c d p q r s = 0) : plX z a b c d p q r s = scX a b c d (min p r) (min q s) (max p r) (max q s) ∧ plY z a b c d p q r s = scY a b c d (min p r) (min q s) (max p r) (max q s) ∧ plS z a b c d p q r s = shiV (min p r) a (scX a b c d (min p r) (min q s) (max p r) (max q s)) ∧ plT z a b c d p q r s = shiV (min q s) b (scY a b c d (min p r) (min q s) (max p r) (max q s)) ∧ plE z a b c d p q r s = 0 :=
  ⟨zif_ok h _, zif_ok h _, zif_ok h _, zif_ok h _, h⟩

end Go.Proofs.Ytbckjejflbfjlaa.Gm
