/-
  A block of numbers, read as a function.
-/
import Derived.Test.YtpplboihlndfpaaHas
import Derived.Test.YtpplboihlndfpaaInfMath
namespace Go.Proofs.Ytpplboihlndfpaa
open Go.RowKit Ix
set_option linter.unusedSimpArgs false
set_option linter.unusedVariables false

/-- Such cells. -/
def numCells (n : Nat) (f : Nat → Int) : Array Value := ((List.range n).map fun i => Value.int .i64 (f i)).toArray
theorem numCells_get (n : Nat) (f : Nat → Int) (i : Nat) (h : i < n) : (numCells n f)[i]? = some (.int .i64 (f i)) := by
  unfold numCells; simp [h]
theorem numCells_set (n : Nat) (f : Nat → Int) (i : Nat) (v : Int) : (numCells n f).setIfInBounds i (.int .i64 v) = numCells n fun j => if j = i then v else f j := by
  apply Array.ext_getElem?
  intro j
  rw [Array.getElem?_setIfInBounds]
  unfold numCells
  by_cases h : i = j
  · subst h
    by_cases h2 : i < n <;> simp [h2]
  · simp only [if_neg h]
    by_cases h2 : j < n
    · simp [h2, if_neg (Ne.symm h)]
    · simp [h2]

/-- Block b holds n numbers, the i-th f i. -/
def Arr (w : World) (b n : Nat) (f : Nat → Int) (t : TypeId) : Prop := Blk w b (numCells n f) t

section
variable {w w' : World} {b n : Nat} {f : Nat → Int} {t : TypeId}
theorem Arr.lt (h : Arr w b n f t) : b < w.heap.size := Blk.lt h
theorem Arr.cell (h : Arr w b n f t) (i : Nat) (hi : i < n) : w.cell? ⟨b, i, none⟩ = some (.int .i64 (f i)) := by
  rw [Blk.cell h, numCells_get n f i hi]
theorem Arr.free (h : Arr w b n f t) : ∀ o, w.frozen? ⟨b, o, none⟩ = false := Blk.free h
theorem Arr.set (h : Arr w b n f t) (i : Nat) (v : Int) : Arr (w.setCell ⟨b, i, none⟩ (.int .i64 v)) b n (fun j => if j = i then v else f j) t := by
  have := Blk.set h i (.int .i64 v)
  rw [numCells_set] at this; exact this
theorem Arr.cellSet (h : Arr w b n f t) (i : Nat) (hi : i < n) (v : Int) : (w.setCell ⟨b, i, none⟩ (.int .i64 v)).cell? ⟨b, i, none⟩ = some (.int .i64 v) := by
  rw [(h.set i v).cell i hi, if_pos rfl]
theorem Arr.other (h : Arr w b n f t) {k o : Nat} (hk : b ≠ k) (v : Value) : Arr (w.setCell ⟨k, o, none⟩ v) b n f t := Blk.other h hk v
theorem Arr.kept (h : Arr w b n f t) (k : Kept w w') : Arr w' b n f t := Blk.kept h k
theorem Arr.alloc (h : Arr w b n f t) (o : Obj) : Arr (w.alloc o) b n f t := Blk.alloc h o
theorem Arr.fn (h : Arr w b n f t) (g : Nat → Int) (e : ∀ i, i < n → f i = g i) : Arr w b n g t := by
  have : numCells n f = numCells n g := by
    unfold numCells; congr 1
    exact List.map_congr_left fun i hi => by rw [e i (List.mem_range.1 hi)]
  unfold Arr at *; rw [← this]; exact h
theorem Arr.gb (h : Arr w b n f t) {r : Option Nat} (g : w.grownBy w' r) (hne : some b ≠ r) : Arr w' b n f t := (g.block b h.lt hne).trans h
end
theorem numCells16 (f : Nat → Int) : numCells 16 f = #[.int .i64 (f 0), .int .i64 (f 1), .int .i64 (f 2), .int .i64 (f 3), .int .i64 (f 4), .int .i64 (f 5), .int .i64 (f 6), .int .i64 (f 7), .int .i64 (f 8), .int .i64 (f 9), .int .i64 (f 10), .int .i64 (f 11), .int .i64 (f 12), .int .i64 (f 13), .int .i64 (f 14), .int .i64 (f 15)] := rfl
theorem Arr.cells16 {w : World} {b : Nat} {f : Nat → Int} {t : TypeId} (h : Arr w b 16 f t) : w.cell? ⟨b, 0, none⟩ = some (.int .i64 (f 0)) ∧ w.cell? ⟨b, 1, none⟩ = some (.int .i64 (f 1)) ∧ w.cell? ⟨b, 2, none⟩ = some (.int .i64 (f 2)) ∧ w.cell? ⟨b, 3, none⟩ = some (.int .i64 (f 3)) ∧ w.cell? ⟨b, 4, none⟩ = some (.int .i64 (f 4)) ∧ w.cell? ⟨b, 5, none⟩ = some (.int .i64 (f 5)) ∧ w.cell? ⟨b, 6, none⟩ = some (.int .i64 (f 6)) ∧ w.cell? ⟨b, 7, none⟩ = some (.int .i64 (f 7)) ∧ w.cell? ⟨b, 8, none⟩ = some (.int .i64 (f 8)) ∧ w.cell? ⟨b, 9, none⟩ = some (.int .i64 (f 9)) ∧ w.cell? ⟨b, 10, none⟩ = some (.int .i64 (f 10)) ∧ w.cell? ⟨b, 11, none⟩ = some (.int .i64 (f 11)) ∧ w.cell? ⟨b, 12, none⟩ = some (.int .i64 (f 12)) ∧ w.cell? ⟨b, 13, none⟩ = some (.int .i64 (f 13)) ∧ w.cell? ⟨b, 14, none⟩ = some (.int .i64 (f 14)) ∧ w.cell? ⟨b, 15, none⟩ = some (.int .i64 (f 15)) :=
  ⟨h.cell 0 (by decide), h.cell 1 (by decide), h.cell 2 (by decide), h.cell 3 (by decide), h.cell 4 (by decide), h.cell 5 (by decide), h.cell 6 (by decide), h.cell 7 (by decide), h.cell 8 (by decide), h.cell 9 (by decide), h.cell 10 (by decide), h.cell 11 (by decide), h.cell 12 (by decide), h.cell 13 (by decide), h.cell 14 (by decide), h.cell 15 (by decide)⟩
theorem Arr.all16 {w : World} {b : Nat} {g : Nat → Int} {t : TypeId} (h : Arr w b 16 g t) (f : Nat → Int) : Arr ((((((((((((((((w.setCell ⟨b, 0, none⟩ (.int .i64 (f 0))).setCell ⟨b, 1, none⟩ (.int .i64 (f 1))).setCell ⟨b, 2, none⟩ (.int .i64 (f 2))).setCell ⟨b, 3, none⟩ (.int .i64 (f 3))).setCell ⟨b, 4, none⟩ (.int .i64 (f 4))).setCell ⟨b, 5, none⟩ (.int .i64 (f 5))).setCell ⟨b, 6, none⟩ (.int .i64 (f 6))).setCell ⟨b, 7, none⟩ (.int .i64 (f 7))).setCell ⟨b, 8, none⟩ (.int .i64 (f 8))).setCell ⟨b, 9, none⟩ (.int .i64 (f 9))).setCell ⟨b, 10, none⟩ (.int .i64 (f 10))).setCell ⟨b, 11, none⟩ (.int .i64 (f 11))).setCell ⟨b, 12, none⟩ (.int .i64 (f 12))).setCell ⟨b, 13, none⟩ (.int .i64 (f 13))).setCell ⟨b, 14, none⟩ (.int .i64 (f 14))).setCell ⟨b, 15, none⟩ (.int .i64 (f 15))) b 16 f t := by
  refine Arr.fn ((((((((((((((((h.set 0 (f 0)).set 1 (f 1)).set 2 (f 2)).set 3 (f 3)).set 4 (f 4)).set 5 (f 5)).set 6 (f 6)).set 7 (f 7)).set 8 (f 8)).set 9 (f 9)).set 10 (f 10)).set 11 (f 11)).set 12 (f 12)).set 13 (f 13)).set 14 (f 14)).set 15 (f 15)) f ?_
  intro i hi
  rcases (show i = 0 ∨ i = 1 ∨ i = 2 ∨ i = 3 ∨ i = 4 ∨ i = 5 ∨ i = 6 ∨ i = 7 ∨ i = 8 ∨ i = 9 ∨ i = 10 ∨ i = 11 ∨ i = 12 ∨ i = 13 ∨ i = 14 ∨ i = 15 by omega) with rfl | rfl | rfl | rfl | rfl | rfl | rfl | rfl | rfl | rfl | rfl | rfl | rfl | rfl | rfl | rfl <;> rfl
theorem all16_kept {w0 w : World} (k : Kept w0 w) {b : Nat} (hb : w0.heap.size ≤ b) (f : Nat → Int) : Kept w0 ((((((((((((((((w.setCell ⟨b, 0, none⟩ (.int .i64 (f 0))).setCell ⟨b, 1, none⟩ (.int .i64 (f 1))).setCell ⟨b, 2, none⟩ (.int .i64 (f 2))).setCell ⟨b, 3, none⟩ (.int .i64 (f 3))).setCell ⟨b, 4, none⟩ (.int .i64 (f 4))).setCell ⟨b, 5, none⟩ (.int .i64 (f 5))).setCell ⟨b, 6, none⟩ (.int .i64 (f 6))).setCell ⟨b, 7, none⟩ (.int .i64 (f 7))).setCell ⟨b, 8, none⟩ (.int .i64 (f 8))).setCell ⟨b, 9, none⟩ (.int .i64 (f 9))).setCell ⟨b, 10, none⟩ (.int .i64 (f 10))).setCell ⟨b, 11, none⟩ (.int .i64 (f 11))).setCell ⟨b, 12, none⟩ (.int .i64 (f 12))).setCell ⟨b, 13, none⟩ (.int .i64 (f 13))).setCell ⟨b, 14, none⟩ (.int .i64 (f 14))).setCell ⟨b, 15, none⟩ (.int .i64 (f 15))) :=
  (((((((((((((((k.set hb _).set hb _).set hb _).set hb _).set hb _).set hb _).set hb _).set hb _).set hb _).set hb _).set hb _).set hb _).set hb _).set hb _).set hb _).set hb _

end Go.Proofs.Ytpplboihlndfpaa
