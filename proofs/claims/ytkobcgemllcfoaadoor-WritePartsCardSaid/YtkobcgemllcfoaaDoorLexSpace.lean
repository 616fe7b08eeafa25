/-
  What package lex's Space answers, at every place.
-/
import Derived.Test.YtkobcgemllcfoaaDoorLexTake
namespace Go.Proofs.YtkobcgemllcfoaaDoor
open Go.RowKit
theorem run_lower {P : Program} {w : World} (ts : Array TypeId) (t : TypeId) (k k' : IntKind) (x y : Int) : (Builtin.min_ ts t #[.int k x, .int k' y]).run P w = .ok (.int k (min x y)) w := by
  rw [run_min_int2]; congr 2; split <;> omega
theorem run_higher {P : Program} {w : World} (ts : Array TypeId) (t : TypeId) (k k' : IntKind) (x y : Int) : (Builtin.max_ ts t #[.int k x, .int k' y]).run P w = .ok (.int k (max x y)) w := by
  rw [run_max_int2]; congr 2; split <;> omega
attribute [local go_sem ↓] run_lower run_higher

theorem kept_over {w wr : World} {c0 c1 : Array Value} {t0 t1 : TypeId} {r : Option Nat} (h : ((w.alloc (.cells c0 t0)).alloc (.cells c1 t1)).grownBy wr r) (hr : ∀ j, r = some j → w.heap.size ≤ j) : Kept w wr :=
  (((Kept.refl w).alloc c0 t0).alloc c1 t1).grown h (by simp; omega) hr
theorem space_start (l : List UInt8) (a : Int) : ∃ k : Nat, min (max a 0) (l.length : Int) = (k : Int) ∧ k ≤ l.length ∧ Lx.spaceV l a = k + Lx.spc false (l.drop k) := by
  refine ⟨(min (max a 0) (l.length : Int)).toNat, ?_, ?_, rfl⟩ <;> omega

end Go.Proofs.YtkobcgemllcfoaaDoor
