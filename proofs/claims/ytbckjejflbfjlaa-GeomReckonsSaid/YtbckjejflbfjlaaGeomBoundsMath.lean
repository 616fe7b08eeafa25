/-
  Plain numbers behind package geom's Bounds.
-/
import Derived.Test.YtbckjejflbfjlaaGeomRectMath
namespace Go.Proofs.Ytbckjejflbfjlaa.Gm
open Fx

def lo (x0 x1 x2 x3 : Int) : Nat → Int
  | 0 => 0
  | 1 => min x0 x0
  | 2 => min (min x0 x0) x1
  | 3 => min (min (min x0 x0) x1) x2
  | _ => min (min (min (min x0 x0) x1) x2) x3
def hi (x0 x1 x2 x3 : Int) : Nat → Int
  | 0 => 0
  | 1 => max x0 x0
  | 2 => max (max x0 x0) x1
  | 3 => max (max (max x0 x0) x1) x2
  | _ => max (max (max (max x0 x0) x1) x2) x3
def noErr (e0 e1 e2 e3 : Int) : Nat → Prop
  | 0 => True
  | 1 => e0 = 0
  | 2 => e0 = 0 ∧ e1 = 0
  | 3 => e0 = 0 ∧ e1 = 0 ∧ e2 = 0
  | _ => e0 = 0 ∧ e1 = 0 ∧ e2 = 0 ∧ e3 = 0
def fst4 (e0 e1 e2 e3 : Int) : Int := fst e0 (fst e1 (fst e2 e3))
theorem fst4_0 {e0 e1 e2 e3 : Int} (h : ¬ e0 = 0) : fst4 e0 e1 e2 e3 = e0 := fst_ne h _
theorem fst4_1 {e0 e1 e2 e3 : Int} (h0 : e0 = 0) (h : ¬ e1 = 0) : fst4 e0 e1 e2 e3 = e1 := by unfold fst4; rw [h0, fst_zero, fst_ne h]
theorem fst4_2 {e0 e1 e2 e3 : Int} (h0 : e0 = 0) (h1 : e1 = 0) (h : ¬ e2 = 0) : fst4 e0 e1 e2 e3 = e2 := by unfold fst4; rw [h0, fst_zero, h1, fst_zero, fst_ne h]
theorem fst4_3 {e0 e1 e2 e3 : Int} (h0 : e0 = 0) (h1 : e1 = 0) (h2 : e2 = 0) : fst4 e0 e1 e2 e3 = e3 := by unfold fst4; rw [h0, fst_zero, h1, fst_zero, h2, fst_zero]

/-- The rectangle around the image of one whose corners are in order. -/
def bndE (m0 m1 m2 m3 m4 m5 p q r s : Int) : Int := fst4 (appE m0 m1 m2 m3 m4 m5 p q) (appE m0 m1 m2 m3 m4 m5 r q) (appE m0 m1 m2 m3 m4 m5 p s) (appE m0 m1 m2 m3 m4 m5 r s)
def bndA (m0 m1 m2 m3 m4 m5 p q r s : Int) : Int := zif (bndE m0 m1 m2 m3 m4 m5 p q r s) (lo (appX m0 m1 m2 m3 m4 m5 p q) (appX m0 m1 m2 m3 m4 m5 r q) (appX m0 m1 m2 m3 m4 m5 p s) (appX m0 m1 m2 m3 m4 m5 r s) 4)
def bndB (m0 m1 m2 m3 m4 m5 p q r s : Int) : Int := zif (bndE m0 m1 m2 m3 m4 m5 p q r s) (lo (appY m0 m1 m2 m3 m4 m5 p q) (appY m0 m1 m2 m3 m4 m5 r q) (appY m0 m1 m2 m3 m4 m5 p s) (appY m0 m1 m2 m3 m4 m5 r s) 4)
def bndC (m0 m1 m2 m3 m4 m5 p q r s : Int) : Int := zif (bndE m0 m1 m2 m3 m4 m5 p q r s) (hi (appX m0 m1 m2 m3 m4 m5 p q) (appX m0 m1 m2 m3 m4 m5 r q) (appX m0 m1 m2 m3 m4 m5 p s) (appX m0 m1 m2 m3 m4 m5 r s) 4)
def bndD (m0 m1 m2 m3 m4 m5 p q r s : Int) : Int := zif (bndE m0 m1 m2 m3 m4 m5 p q r s) (hi (appY m0 m1 m2 m3 m4 m5 p q) (appY m0 m1 m2 m3 m4 m5 r q) (appY m0 m1 m2 m3 m4 m5 p s) (appY m0 m1 m2 m3 m4 m5 r s) 4)
theorem bnd_err {m0 m1 m2 m3 m4 m5 p q r s e : Int} (h : bndE m0 m1 m2 m3 m4 m5 p q r s = e) (he : ¬ e = 0) : bndA m0 m1 m2 m3 m4 m5 p q r s = 0 ∧ bndB m0 m1 m2 m3 m4 m5 p q r s = 0 ∧ bndC m0 m1 m2 m3 m4 m5 p q r s = 0 ∧ bndD m0 m1 m2 m3 m4 m5 p q r s = 0 ∧ bndE m0 m1 m2 m3 m4 m5 p q r s = e := by
  have k : bndE m0 m1 m2 m3 m4 m5 p q r s ≠ 0 := by rw [h]; exact he
  exact ⟨zif_no k _, zif_no k _, zif_no k _, zif_no k _, h⟩
theorem bnd_ok {m0 m1 m2 m3 m4 m5 p q r s : Int} (h : noErr (appE m0 m1 m2 m3 m4 m5 p q) (appE m0 m1 m2 m3 m4 m5 r q) (appE m0 m1 m2 m3 m4 m5 p s) (appE m0 m1 m2 m3 m4 m5 r s) 4) : bndA m0 m1 m2 m3 m4 m5 p q r s = lo (appX m0 m1 m2 m3 m4 m5 p q) (appX m0 m1 m2 m3 m4 m5 r q) (appX m0 m1 m2 m3 m4 m5 p s) (appX m0 m1 m2 m3 m4 m5 r s) 4 ∧ bndB m0 m1 m2 m3 m4 m5 p q r s = lo (appY m0 m1 m2 m3 m4 m5 p q) (appY m0 m1 m2 m3 m4 m5 r q) (appY m0 m1 m2 m3 m4 m5 p s) (appY m0 m1 m2 m3 m4 m5 r s) 4 ∧ bndC m0 m1 m2 m3 m4 m5 p q r s = hi (appX m0 m1 m2 m3 m4 m5 p q) (appX m0 m1 m2 m3 m4 m5 r q) (appX m0 m1 m2 m3 m4 m5 p s) (appX m0 m1 m2 m3 m4 m5 r s) 4 ∧ bndD m0 m1 m2 m3 m4 m5 p q r s = hi (appY m0 m1 m2 m3 m4 m5 p q) (appY m0 m1 m2 m3 m4 m5 r q) (appY m0 m1 m2 m3 m4 m5 p s) (appY m0 m1 m2 m3 m4 m5 r s) 4 ∧ bndE m0 m1 m2 m3 m4 m5 p q r s = 0 := by
  obtain ⟨h0, h1, h2, h3⟩ := h
  have k : bndE m0 m1 m2 m3 m4 m5 p q r s = 0 := by unfold bndE; rw [fst4_3 h0 h1 h2]; exact h3
  exact ⟨zif_ok k _, zif_ok k _, zif_ok k _, zif_ok k _, k⟩

end Go.Proofs.Ytbckjejflbfjlaa.Gm
