/-
  Plain numbers of package geom's rectangles.
-/
import Derived.Test.YtbckjejflbfjlaaGeomMath
namespace Go.Proofs.Ytbckjejflbfjlaa.Gm
open Fx

/-- The least and the greatest of four. -/
def lo4 (a b c d : Int) : Int := min (min (min (min a a) b) c) d
def hi4 (a b c d : Int) : Int := max (max (max (max a a) b) c) d

/-- Has it an inside? -/
def insB (a b c d : Int) : Bool := decide (a < c) && decide (b < d)
theorem ins_iff {a b c d : Int} : insB a b c d = true ↔ a < c ∧ b < d := by unfold insB; simp
theorem ins_not {a b c d : Int} (h : insB a b c d = false) : c ≤ a ∨ d ≤ b := by
  unfold insB at h; simp at h; omega
def yif (b : Bool) (v : Int) : Int := if b = true then v else 0
theorem yif_ok {b : Bool} (h : b = true) (v : Int) : yif b v = v := if_pos h
theorem yif_no {b : Bool} (h : b = false) (v : Int) : yif b v = 0 := if_neg (by rw [h]; simp)

end Go.Proofs.Ytbckjejflbfjlaa.Gm
