/-
  What package geom's Bounds answers: the rectangle around a rectangle's image.
-/
import Derived.Test.YtbckjejflbfjlaaGeomApply
import Derived.Test.YtbckjejflbfjlaaGeomBoundsMath
import Derived.Test.YtbckjejflbfjlaaBlk
namespace Go.Proofs.Ytbckjejflbfjlaa
open Go.RowKit

/-- What lies in memory at the head of round k. -/
def BIn (m0 m1 m2 m3 m4 m5 x0 x1 x2 x3 y0 y1 y2 y3 : Int) (w : World) (k : Nat) (wr : World) : Prop :=
  Kept w wr ∧ Blk wr (w.heap.size) #[.int .i64 m0, .int .i64 m1, .int .i64 m2, .int .i64 m3, .int .i64 m4, .int .i64 m5] 24 ∧ Blk wr (w.heap.size + 1 + 1) #[.int .i64 0, .int .i64 0, .int .i64 0, .int .i64 0] 26 ∧
  Blk wr (w.heap.size + 1 + 1 + 1) #[.int .i64 (Gm.lo x0 x1 x2 x3 k), .int .i64 (Gm.lo y0 y1 y2 y3 k), .int .i64 (Gm.hi x0 x1 x2 x3 k), .int .i64 (Gm.hi y0 y1 y2 y3 k)] 26
def BRel (m0 m1 m2 m3 m4 m5 p q r s : Int) (w : World) (i : Value) (wr : World) : Prop :=
  (i = .int .i64 0 ∧ BIn m0 m1 m2 m3 m4 m5 (Gm.appX m0 m1 m2 m3 m4 m5 p q) (Gm.appX m0 m1 m2 m3 m4 m5 r q) (Gm.appX m0 m1 m2 m3 m4 m5 p s) (Gm.appX m0 m1 m2 m3 m4 m5 r s) (Gm.appY m0 m1 m2 m3 m4 m5 p q) (Gm.appY m0 m1 m2 m3 m4 m5 r q) (Gm.appY m0 m1 m2 m3 m4 m5 p s) (Gm.appY m0 m1 m2 m3 m4 m5 r s) w 0 wr ∧ Gm.noErr (Gm.appE m0 m1 m2 m3 m4 m5 p q) (Gm.appE m0 m1 m2 m3 m4 m5 r q) (Gm.appE m0 m1 m2 m3 m4 m5 p s) (Gm.appE m0 m1 m2 m3 m4 m5 r s) 0) ∨ (i = .int .i64 1 ∧ BIn m0 m1 m2 m3 m4 m5 (Gm.appX m0 m1 m2 m3 m4 m5 p q) (Gm.appX m0 m1 m2 m3 m4 m5 r q) (Gm.appX m0 m1 m2 m3 m4 m5 p s) (Gm.appX m0 m1 m2 m3 m4 m5 r s) (Gm.appY m0 m1 m2 m3 m4 m5 p q) (Gm.appY m0 m1 m2 m3 m4 m5 r q) (Gm.appY m0 m1 m2 m3 m4 m5 p s) (Gm.appY m0 m1 m2 m3 m4 m5 r s) w 1 wr ∧ Gm.noErr (Gm.appE m0 m1 m2 m3 m4 m5 p q) (Gm.appE m0 m1 m2 m3 m4 m5 r q) (Gm.appE m0 m1 m2 m3 m4 m5 p s) (Gm.appE m0 m1 m2 m3 m4 m5 r s) 1) ∨ (i = .int .i64 2 ∧ BIn m0 m1 m2 m3 m4 m5 (Gm.appX m0 m1 m2 m3 m4 m5 p q) (Gm.appX m0 m1 m2 m3 m4 m5 r q) (Gm.appX m0 m1 m2 m3 m4 m5 p s) (Gm.appX m0 m1 m2 m3 m4 m5 r s) (Gm.appY m0 m1 m2 m3 m4 m5 p q) (Gm.appY m0 m1 m2 m3 m4 m5 r q) (Gm.appY m0 m1 m2 m3 m4 m5 p s) (Gm.appY m0 m1 m2 m3 m4 m5 r s) w 2 wr ∧ Gm.noErr (Gm.appE m0 m1 m2 m3 m4 m5 p q) (Gm.appE m0 m1 m2 m3 m4 m5 r q) (Gm.appE m0 m1 m2 m3 m4 m5 p s) (Gm.appE m0 m1 m2 m3 m4 m5 r s) 2) ∨ (i = .int .i64 3 ∧ BIn m0 m1 m2 m3 m4 m5 (Gm.appX m0 m1 m2 m3 m4 m5 p q) (Gm.appX m0 m1 m2 m3 m4 m5 r q) (Gm.appX m0 m1 m2 m3 m4 m5 p s) (Gm.appX m0 m1 m2 m3 m4 m5 r s) (Gm.appY m0 m1 m2 m3 m4 m5 p q) (Gm.appY m0 m1 m2 m3 m4 m5 r q) (Gm.appY m0 m1 m2 m3 m4 m5 p s) (Gm.appY m0 m1 m2 m3 m4 m5 r s) w 3 wr ∧ Gm.noErr (Gm.appE m0 m1 m2 m3 m4 m5 p q) (Gm.appE m0 m1 m2 m3 m4 m5 r q) (Gm.appE m0 m1 m2 m3 m4 m5 p s) (Gm.appE m0 m1 m2 m3 m4 m5 r s) 3) ∨ (i = .int .i64 4 ∧ BIn m0 m1 m2 m3 m4 m5 (Gm.appX m0 m1 m2 m3 m4 m5 p q) (Gm.appX m0 m1 m2 m3 m4 m5 r q) (Gm.appX m0 m1 m2 m3 m4 m5 p s) (Gm.appX m0 m1 m2 m3 m4 m5 r s) (Gm.appY m0 m1 m2 m3 m4 m5 p q) (Gm.appY m0 m1 m2 m3 m4 m5 r q) (Gm.appY m0 m1 m2 m3 m4 m5 p s) (Gm.appY m0 m1 m2 m3 m4 m5 r s) w 4 wr ∧ Gm.noErr (Gm.appE m0 m1 m2 m3 m4 m5 p q) (Gm.appE m0 m1 m2 m3 m4 m5 r q) (Gm.appE m0 m1 m2 m3 m4 m5 p s) (Gm.appE m0 m1 m2 m3 m4 m5 r s) 4)

theorem BIn.start {m0 m1 m2 m3 m4 m5 a b c d : Int} (x0 x1 x2 x3 y0 y1 y2 y3 : Int) {w w1 w2 : World} (k1 : Kept ((((w.alloc (.cells #[.int .i64 m0, .int .i64 m1, .int .i64 m2, .int .i64 m3, .int .i64 m4, .int .i64 m5] 24)).alloc (.cells #[.int .i64 a, .int .i64 b, .int .i64 c, .int .i64 d] 26)).alloc (.cells #[.int .i64 0, .int .i64 0, .int .i64 0, .int .i64 0] 26)).alloc (.cells #[.int .i64 0, .int .i64 0, .int .i64 0, .int .i64 0] 26)) w1) (k2 : Kept w1 w2) :
    BIn m0 m1 m2 m3 m4 m5 x0 x1 x2 x3 y0 y1 y2 y3 w 0 w2 :=
  ⟨((((((Kept.refl w).alloc _ _).alloc _ _).alloc _ _).alloc _ _).trans k1).trans k2, (((((Blk.fresh w _ _).alloc _).alloc _).alloc _).kept k1).kept k2, (((Blk.fresh' _ _ (by simp)).alloc _).kept k1).kept k2, ((Blk.fresh' _ _ (by simp)).kept k1).kept k2⟩
theorem BIn.next {m0 m1 m2 m3 m4 m5 x0 x1 x2 x3 y0 y1 y2 y3 : Int} {w wr w1 w2 : World} {k : Nat} {o : Obj} {u0 u1 u2 u3 : Int} (h : BIn m0 m1 m2 m3 m4 m5 x0 x1 x2 x3 y0 y1 y2 y3 w k wr) (k1 : Kept (wr.alloc o) w1) (k2 : Kept w1 w2)
    (e0 : u0 = Gm.lo x0 x1 x2 x3 (k + 1)) (e1 : u1 = Gm.lo y0 y1 y2 y3 (k + 1)) (e2 : u2 = Gm.hi x0 x1 x2 x3 (k + 1)) (e3 : u3 = Gm.hi y0 y1 y2 y3 (k + 1)) :
    BIn m0 m1 m2 m3 m4 m5 x0 x1 x2 x3 y0 y1 y2 y3 w (k + 1) ((((w2.setCell ⟨w.heap.size + 1 + 1 + 1, 0, none⟩ (.int .i64 u0)).setCell ⟨w.heap.size + 1 + 1 + 1, 1, none⟩ (.int .i64 u1)).setCell ⟨w.heap.size + 1 + 1 + 1, 2, none⟩ (.int .i64 u2)).setCell ⟨w.heap.size + 1 + 1 + 1, 3, none⟩ (.int .i64 u3)) := by
  subst e0 e1 e2 e3
  obtain ⟨hk, hm, hr, ha⟩ := h
  have q : Kept w w2 := ((hk.allocO o).trans k1).trans k2
  exact ⟨q.set4 (by omega) _ _ _ _, (((hm.alloc _).kept k1).kept k2).other4 (by omega) _ _ _ _, (((hr.alloc _).kept k1).kept k2).other4 (by omega) _ _ _ _, (((ha.alloc _).kept k1).kept k2).set4 _ _ _ _⟩
theorem BIn.first {m0 m1 m2 m3 m4 m5 x0 x1 x2 x3 y0 y1 y2 y3 : Int} {w wr w1 w2 : World} {o : Obj} {v0 v1 v2 v3 : Value} {u0 u1 u2 u3 : Int} (h : BIn m0 m1 m2 m3 m4 m5 x0 x1 x2 x3 y0 y1 y2 y3 w 0 wr) (k1 : Kept (wr.alloc o) w1) (k2 : Kept ((((w1.setCell ⟨w.heap.size + 1 + 1 + 1, 0, none⟩ v0).setCell ⟨w.heap.size + 1 + 1 + 1, 1, none⟩ v1).setCell ⟨w.heap.size + 1 + 1 + 1, 2, none⟩ v2).setCell ⟨w.heap.size + 1 + 1 + 1, 3, none⟩ v3) w2)
    (e0 : u0 = Gm.lo x0 x1 x2 x3 1) (e1 : u1 = Gm.lo y0 y1 y2 y3 1) (e2 : u2 = Gm.hi x0 x1 x2 x3 1) (e3 : u3 = Gm.hi y0 y1 y2 y3 1) :
    BIn m0 m1 m2 m3 m4 m5 x0 x1 x2 x3 y0 y1 y2 y3 w 1 ((((w2.setCell ⟨w.heap.size + 1 + 1 + 1, 0, none⟩ (.int .i64 u0)).setCell ⟨w.heap.size + 1 + 1 + 1, 1, none⟩ (.int .i64 u1)).setCell ⟨w.heap.size + 1 + 1 + 1, 2, none⟩ (.int .i64 u2)).setCell ⟨w.heap.size + 1 + 1 + 1, 3, none⟩ (.int .i64 u3)) := by
  subst e0 e1 e2 e3
  obtain ⟨hk, hm, hr, ha⟩ := h
  have q : Kept w w2 := (((hk.allocO o).trans k1).set4 (by omega) _ _ _ _).trans k2
  exact ⟨q.set4 (by omega) _ _ _ _, ((((hm.alloc _).kept k1).other4 (by omega) _ _ _ _).kept k2).other4 (by omega) _ _ _ _, ((((hr.alloc _).kept k1).other4 (by omega) _ _ _ _).kept k2).other4 (by omega) _ _ _ _, ((((ha.alloc _).kept k1).set4 _ _ _ _).kept k2).set4 _ _ _ _⟩
/-- The cells that a round reads and writes. -/
theorem BIn.reads {m0 m1 m2 m3 m4 m5 x0 x1 x2 x3 y0 y1 y2 y3 : Int} {w wr : World} {k : Nat} (h : BIn m0 m1 m2 m3 m4 m5 x0 x1 x2 x3 y0 y1 y2 y3 w k wr) :
    wr.cell? ⟨w.heap.size, 0, none⟩ = some (.int .i64 m0) ∧ wr.cell? ⟨w.heap.size, 1, none⟩ = some (.int .i64 m1) ∧ wr.cell? ⟨w.heap.size, 2, none⟩ = some (.int .i64 m2) ∧ wr.cell? ⟨w.heap.size, 3, none⟩ = some (.int .i64 m3) ∧ wr.cell? ⟨w.heap.size, 4, none⟩ = some (.int .i64 m4) ∧ wr.cell? ⟨w.heap.size, 5, none⟩ = some (.int .i64 m5) ∧
    w.heap.size < wr.heap.size ∧ w.heap.size + 1 + 1 + 1 < wr.heap.size :=
  have c := h.2.1.cells6
  ⟨c.1, c.2.1, c.2.2.1, c.2.2.2.1, c.2.2.2.2.1, c.2.2.2.2.2, h.2.1.lt, h.2.2.2.lt⟩
/-- Behind the call of Apply: the cells of the rectangle so far. -/
theorem BIn.around {m0 m1 m2 m3 m4 m5 x0 x1 x2 x3 y0 y1 y2 y3 : Int} {w wr w1 : World} {k : Nat} {o : Obj} (h : BIn m0 m1 m2 m3 m4 m5 x0 x1 x2 x3 y0 y1 y2 y3 w k wr) (k1 : Kept (wr.alloc o) w1) :
    w1.cell? ⟨w.heap.size + 1 + 1 + 1, 0, none⟩ = some (.int .i64 (Gm.lo x0 x1 x2 x3 k)) ∧ w1.cell? ⟨w.heap.size + 1 + 1 + 1, 1, none⟩ = some (.int .i64 (Gm.lo y0 y1 y2 y3 k)) ∧ w1.cell? ⟨w.heap.size + 1 + 1 + 1, 2, none⟩ = some (.int .i64 (Gm.hi x0 x1 x2 x3 k)) ∧ w1.cell? ⟨w.heap.size + 1 + 1 + 1, 3, none⟩ = some (.int .i64 (Gm.hi y0 y1 y2 y3 k)) ∧ (∀ o, w1.frozen? ⟨w.heap.size + 1 + 1 + 1, o, none⟩ = false) ∧ w.heap.size + 1 + 1 + 1 < w1.heap.size :=
  have q := (h.2.2.2.alloc o).kept k1
  ⟨q.cells4.1, q.cells4.2.1, q.cells4.2.2.1, q.cells4.2.2.2, q.free, q.lt⟩
theorem BIn.result {m0 m1 m2 m3 m4 m5 x0 x1 x2 x3 y0 y1 y2 y3 : Int} {w wr w1 : World} {k : Nat} {o : Obj} (h : BIn m0 m1 m2 m3 m4 m5 x0 x1 x2 x3 y0 y1 y2 y3 w k wr) (k1 : Kept (wr.alloc o) w1) :
    w1.cell? ⟨w.heap.size + 1 + 1, 0, none⟩ = some (.int .i64 0) ∧ w1.cell? ⟨w.heap.size + 1 + 1, 1, none⟩ = some (.int .i64 0) ∧ w1.cell? ⟨w.heap.size + 1 + 1, 2, none⟩ = some (.int .i64 0) ∧ w1.cell? ⟨w.heap.size + 1 + 1, 3, none⟩ = some (.int .i64 0) ∧ (∀ o, w1.frozen? ⟨w.heap.size + 1 + 1, o, none⟩ = false) ∧ w.heap.size + 1 + 1 < w1.heap.size :=
  have q := (h.2.2.1.alloc o).kept k1
  ⟨q.cells4.1, q.cells4.2.1, q.cells4.2.2.1, q.cells4.2.2.2, q.free, q.lt⟩
theorem BIn.behind {m0 m1 m2 m3 m4 m5 x0 x1 x2 x3 y0 y1 y2 y3 : Int} {w wr w1 w2 : World} {k : Nat} {o : Obj} (h : BIn m0 m1 m2 m3 m4 m5 x0 x1 x2 x3 y0 y1 y2 y3 w k wr) (k1 : Kept (wr.alloc o) w1) (k2 : Kept w1 w2) :
    w2.cell? ⟨w.heap.size + 1 + 1 + 1, 0, none⟩ = some (.int .i64 (Gm.lo x0 x1 x2 x3 k)) ∧ w2.cell? ⟨w.heap.size + 1 + 1 + 1, 1, none⟩ = some (.int .i64 (Gm.lo y0 y1 y2 y3 k)) ∧ w2.cell? ⟨w.heap.size + 1 + 1 + 1, 2, none⟩ = some (.int .i64 (Gm.hi x0 x1 x2 x3 k)) ∧ w2.cell? ⟨w.heap.size + 1 + 1 + 1, 3, none⟩ = some (.int .i64 (Gm.hi y0 y1 y2 y3 k)) ∧ (∀ o, w2.frozen? ⟨w.heap.size + 1 + 1 + 1, o, none⟩ = false) :=
  have q := ((h.2.2.2.alloc o).kept k1).kept k2
  ⟨q.cells4.1, q.cells4.2.1, q.cells4.2.2.1, q.cells4.2.2.2, q.free⟩
theorem BIn.behind0 {m0 m1 m2 m3 m4 m5 x0 x1 x2 x3 y0 y1 y2 y3 : Int} {w wr w1 w2 : World} {k : Nat} {o : Obj} {v0 v1 v2 v3 : Value} (h : BIn m0 m1 m2 m3 m4 m5 x0 x1 x2 x3 y0 y1 y2 y3 w k wr) (k1 : Kept (wr.alloc o) w1) (k2 : Kept ((((w1.setCell ⟨w.heap.size + 1 + 1 + 1, 0, none⟩ v0).setCell ⟨w.heap.size + 1 + 1 + 1, 1, none⟩ v1).setCell ⟨w.heap.size + 1 + 1 + 1, 2, none⟩ v2).setCell ⟨w.heap.size + 1 + 1 + 1, 3, none⟩ v3) w2) :
    w2.cell? ⟨w.heap.size + 1 + 1 + 1, 0, none⟩ = some v0 ∧ w2.cell? ⟨w.heap.size + 1 + 1 + 1, 1, none⟩ = some v1 ∧ w2.cell? ⟨w.heap.size + 1 + 1 + 1, 2, none⟩ = some v2 ∧ w2.cell? ⟨w.heap.size + 1 + 1 + 1, 3, none⟩ = some v3 ∧ (∀ o, w2.frozen? ⟨w.heap.size + 1 + 1 + 1, o, none⟩ = false) :=
  have q := (((h.2.2.2.alloc o).kept k1).set4 v0 v1 v2 v3).kept k2
  ⟨q.cells4.1, q.cells4.2.1, q.cells4.2.2.1, q.cells4.2.2.2, q.free⟩

set_option maxHeartbeats 8000000 in
theorem Bounds_any (m0 m1 m2 m3 m4 m5 a b c d : Int) (w : World) :
    Calls Try.prog 15 #[.agg #[.int .i64 m0, .int .i64 m1, .int .i64 m2, .int .i64 m3, .int .i64 m4, .int .i64 m5], .agg #[.int .i64 a, .int .i64 b, .int .i64 c, .int .i64 d]] w fun e w' => e = .returned (.tuple #[.agg #[.int .i64 (Gm.bndA m0 m1 m2 m3 m4 m5 (min a c) (min b d) (max a c) (max b d)), .int .i64 (Gm.bndB m0 m1 m2 m3 m4 m5 (min a c) (min b d) (max a c) (max b d)), .int .i64 (Gm.bndC m0 m1 m2 m3 m4 m5 (min a c) (min b d) (max a c) (max b d)), .int .i64 (Gm.bndD m0 m1 m2 m3 m4 m5 (min a c) (min b d) (max a c) (max b d))], .int .i64 (Gm.bndE m0 m1 m2 m3 m4 m5 (min a c) (min b d) (max a c) (max b d))]) ∧ Kept w w' := by
  have H4 := Lib.hid (fun h => Gm.bnd_ok (m0 := m0) (m1 := m1) (m2 := m2) (m3 := m3) (m4 := m4) (m5 := m5) (p := min a c) (q := min b d) (r := max a c) (s := max b d) h)
  have i0 : ∀ w, (Instr.index 60 (.agg #[.int .i64 (min a c), .int .i64 (min b d), .int .i64 (max a c), .int .i64 (min b d), .int .i64 (min a c), .int .i64 (max b d), .int .i64 (max a c), .int .i64 (max b d)]) (.int .i64 0)).run Try.prog w = .ok (.agg #[.int .i64 (min a c), .int .i64 (min b d)]) w := fun _ => by kernel_rfl
  have i1 : ∀ w, (Instr.index 60 (.agg #[.int .i64 (min a c), .int .i64 (min b d), .int .i64 (max a c), .int .i64 (min b d), .int .i64 (min a c), .int .i64 (max b d), .int .i64 (max a c), .int .i64 (max b d)]) (.int .i64 1)).run Try.prog w = .ok (.agg #[.int .i64 (max a c), .int .i64 (min b d)]) w := fun _ => by kernel_rfl
  have i2 : ∀ w, (Instr.index 60 (.agg #[.int .i64 (min a c), .int .i64 (min b d), .int .i64 (max a c), .int .i64 (min b d), .int .i64 (min a c), .int .i64 (max b d), .int .i64 (max a c), .int .i64 (max b d)]) (.int .i64 2)).run Try.prog w = .ok (.agg #[.int .i64 (min a c), .int .i64 (max b d)]) w := fun _ => by kernel_rfl
  have i3 : ∀ w, (Instr.index 60 (.agg #[.int .i64 (min a c), .int .i64 (min b d), .int .i64 (max a c), .int .i64 (min b d), .int .i64 (min a c), .int .i64 (max b d), .int .i64 (max a c), .int .i64 (max b d)]) (.int .i64 3)).run Try.prog w = .ok (.agg #[.int .i64 (max a c), .int .i64 (max b d)]) w := fun _ => by kernel_rfl
  go_enter Try.func15, Try.ntmps15
  go_wp2_with fail
  refine (Norm_any a b c d _).mono ?_
  rintro e w1 ⟨rfl, k1⟩
  go_wp2_with fail
  refine (corners_any _ _ _ _ _).mono ?_
  rintro e w2 ⟨rfl, k2⟩
  go_wp2_with fail
  have HS := Lib.hid (BIn.start (a := a) (b := b) (c := c) (d := d) (Gm.appX m0 m1 m2 m3 m4 m5 (min a c) (min b d)) (Gm.appX m0 m1 m2 m3 m4 m5 (max a c) (min b d)) (Gm.appX m0 m1 m2 m3 m4 m5 (min a c) (max b d)) (Gm.appX m0 m1 m2 m3 m4 m5 (max a c) (max b d)) (Gm.appY m0 m1 m2 m3 m4 m5 (min a c) (min b d)) (Gm.appY m0 m1 m2 m3 m4 m5 (max a c) (min b d)) (Gm.appY m0 m1 m2 m3 m4 m5 (min a c) (max b d)) (Gm.appY m0 m1 m2 m3 m4 m5 (max a c) (max b d)) k1 k2)
  clear k1 k2
  go_loopw [15] (fun i wr => BRel m0 m1 m2 m3 m4 m5 (min a c) (min b d) (max a c) (max b d) w i wr) (fun i _ => 4 - (intOf i).toNat)
  case atStart => exact .inl ⟨rfl, HS.out, trivial⟩
  case round =>
    clear HS
    rcases hrel with ⟨rfl, hb, he⟩ | ⟨rfl, hb, he⟩ | ⟨rfl, hb, he⟩ | ⟨rfl, hb, he⟩ | ⟨rfl, hb, he⟩
    · have HB := Lib.hid hb
      have HE := Lib.hid he
      obtain ⟨c0, c1, c2, c3, c4, c5, z0, z3⟩ := hb.reads
      clear hb he
      by_cases h : Gm.appE m0 m1 m2 m3 m4 m5 (min a c) (min b d) = 0
      · have t0 := ne_no h
        have HZ := Lib.hid h
        clear h
        go_wp2_with fail
        refine (Apply_any m0 m1 m2 m3 m4 m5 (min a c) (min b d) _).mono ?_
        rintro e v1 ⟨rfl, k1⟩
        obtain ⟨a0, a1, a2, a3, af, az⟩ := HB.out.around k1
        go_wp2_with fail
        refine (grown_any _ _ _ _ _ _ _).mono ?_
        rintro e v2 ⟨rfl, k2⟩
        obtain ⟨b0, b1, b2, b3, bf⟩ := HB.out.behind0 k1 k2
        go_wp2_with fail
        go_roundw
        case rel => exact .inr (.inl (⟨rfl, HB.out.first k1 k2 (by simp [Gm.lo]) (by simp [Gm.lo]) (by simp [Gm.hi]) (by simp [Gm.hi]), HZ.out⟩))
        case measure => simp [intOf]
      · have t0 := ne_yes h
        have HZ := Lib.hid h
        clear h
        go_wp2_with fail
        refine (Apply_any m0 m1 m2 m3 m4 m5 (min a c) (min b d) _).mono ?_
        rintro e v1 ⟨rfl, k1⟩
        obtain ⟨a0, a1, a2, a3, af, az⟩ := HB.out.result k1
        go_wp2_with fail
        refine bodyPost_ret (v := .tuple #[.agg #[.int .i64 0, .int .i64 0, .int .i64 0, .int .i64 0], .int .i64 (Gm.appE m0 m1 m2 m3 m4 m5 (min a c) (min b d))]) ?_ rfl ⟨?_, ?_⟩
        · simp [results, Try.results15, go_sem, a0, a1, a2, a3]
        · obtain ⟨q0, q1, q2, q3, q4⟩ := Gm.bnd_err (e := (Gm.appE m0 m1 m2 m3 m4 m5 (min a c) (min b d))) (Gm.fst4_0 HZ.out) HZ.out
          rw [q0, q1, q2, q3, q4]
        · exact ((HB.out.1.allocO _).trans k1).set4 (by omega) _ _ _ _
    · have HB := Lib.hid hb
      have HE := Lib.hid he
      obtain ⟨c0, c1, c2, c3, c4, c5, z0, z3⟩ := hb.reads
      clear hb he
      by_cases h : Gm.appE m0 m1 m2 m3 m4 m5 (max a c) (min b d) = 0
      · have t0 := ne_no h
        have HZ := Lib.hid h
        clear h
        go_wp2_with fail
        refine (Apply_any m0 m1 m2 m3 m4 m5 (max a c) (min b d) _).mono ?_
        rintro e v1 ⟨rfl, k1⟩
        obtain ⟨a0, a1, a2, a3, af, az⟩ := HB.out.around k1
        go_wp2_with fail
        refine (grown_any _ _ _ _ _ _ _).mono ?_
        rintro e v2 ⟨rfl, k2⟩
        obtain ⟨b0, b1, b2, b3, bf⟩ := HB.out.behind k1 k2
        go_wp2_with fail
        go_roundw
        case rel => exact .inr (.inr (.inl (⟨rfl, HB.out.next k1 k2 rfl rfl rfl rfl, ⟨HE.out, HZ.out⟩⟩)))
        case measure => simp [intOf]
      · have t0 := ne_yes h
        have HZ := Lib.hid h
        clear h
        go_wp2_with fail
        refine (Apply_any m0 m1 m2 m3 m4 m5 (max a c) (min b d) _).mono ?_
        rintro e v1 ⟨rfl, k1⟩
        obtain ⟨a0, a1, a2, a3, af, az⟩ := HB.out.result k1
        go_wp2_with fail
        refine bodyPost_ret (v := .tuple #[.agg #[.int .i64 0, .int .i64 0, .int .i64 0, .int .i64 0], .int .i64 (Gm.appE m0 m1 m2 m3 m4 m5 (max a c) (min b d))]) ?_ rfl ⟨?_, ?_⟩
        · simp [results, Try.results15, go_sem, a0, a1, a2, a3]
        · obtain ⟨q0, q1, q2, q3, q4⟩ := Gm.bnd_err (e := (Gm.appE m0 m1 m2 m3 m4 m5 (max a c) (min b d))) (Gm.fst4_1 HE.out HZ.out) HZ.out
          rw [q0, q1, q2, q3, q4]
        · exact ((HB.out.1.allocO _).trans k1).set4 (by omega) _ _ _ _
    · have HB := Lib.hid hb
      have HE := Lib.hid he
      obtain ⟨c0, c1, c2, c3, c4, c5, z0, z3⟩ := hb.reads
      clear hb he
      by_cases h : Gm.appE m0 m1 m2 m3 m4 m5 (min a c) (max b d) = 0
      · have t0 := ne_no h
        have HZ := Lib.hid h
        clear h
        go_wp2_with fail
        refine (Apply_any m0 m1 m2 m3 m4 m5 (min a c) (max b d) _).mono ?_
        rintro e v1 ⟨rfl, k1⟩
        obtain ⟨a0, a1, a2, a3, af, az⟩ := HB.out.around k1
        go_wp2_with fail
        refine (grown_any _ _ _ _ _ _ _).mono ?_
        rintro e v2 ⟨rfl, k2⟩
        obtain ⟨b0, b1, b2, b3, bf⟩ := HB.out.behind k1 k2
        go_wp2_with fail
        go_roundw
        case rel => exact .inr (.inr (.inr (.inl (⟨rfl, HB.out.next k1 k2 rfl rfl rfl rfl, ⟨HE.out.1, HE.out.2, HZ.out⟩⟩))))
        case measure => simp [intOf]
      · have t0 := ne_yes h
        have HZ := Lib.hid h
        clear h
        go_wp2_with fail
        refine (Apply_any m0 m1 m2 m3 m4 m5 (min a c) (max b d) _).mono ?_
        rintro e v1 ⟨rfl, k1⟩
        obtain ⟨a0, a1, a2, a3, af, az⟩ := HB.out.result k1
        go_wp2_with fail
        refine bodyPost_ret (v := .tuple #[.agg #[.int .i64 0, .int .i64 0, .int .i64 0, .int .i64 0], .int .i64 (Gm.appE m0 m1 m2 m3 m4 m5 (min a c) (max b d))]) ?_ rfl ⟨?_, ?_⟩
        · simp [results, Try.results15, go_sem, a0, a1, a2, a3]
        · obtain ⟨q0, q1, q2, q3, q4⟩ := Gm.bnd_err (e := (Gm.appE m0 m1 m2 m3 m4 m5 (min a c) (max b d))) (Gm.fst4_2 HE.out.1 HE.out.2 HZ.out) HZ.out
          rw [q0, q1, q2, q3, q4]
        · exact ((HB.out.1.allocO _).trans k1).set4 (by omega) _ _ _ _
    · have HB := Lib.hid hb
      have HE := Lib.hid he
      obtain ⟨c0, c1, c2, c3, c4, c5, z0, z3⟩ := hb.reads
      clear hb he
      by_cases h : Gm.appE m0 m1 m2 m3 m4 m5 (max a c) (max b d) = 0
      · have t0 := ne_no h
        have HZ := Lib.hid h
        clear h
        go_wp2_with fail
        refine (Apply_any m0 m1 m2 m3 m4 m5 (max a c) (max b d) _).mono ?_
        rintro e v1 ⟨rfl, k1⟩
        obtain ⟨a0, a1, a2, a3, af, az⟩ := HB.out.around k1
        go_wp2_with fail
        refine (grown_any _ _ _ _ _ _ _).mono ?_
        rintro e v2 ⟨rfl, k2⟩
        obtain ⟨b0, b1, b2, b3, bf⟩ := HB.out.behind k1 k2
        go_wp2_with fail
        go_roundw
        case rel => exact .inr (.inr (.inr (.inr (⟨rfl, HB.out.next k1 k2 rfl rfl rfl rfl, ⟨HE.out.1, HE.out.2.1, HE.out.2.2, HZ.out⟩⟩))))
        case measure => simp [intOf]
      · have t0 := ne_yes h
        have HZ := Lib.hid h
        clear h
        go_wp2_with fail
        refine (Apply_any m0 m1 m2 m3 m4 m5 (max a c) (max b d) _).mono ?_
        rintro e v1 ⟨rfl, k1⟩
        obtain ⟨a0, a1, a2, a3, af, az⟩ := HB.out.result k1
        go_wp2_with fail
        refine bodyPost_ret (v := .tuple #[.agg #[.int .i64 0, .int .i64 0, .int .i64 0, .int .i64 0], .int .i64 (Gm.appE m0 m1 m2 m3 m4 m5 (max a c) (max b d))]) ?_ rfl ⟨?_, ?_⟩
        · simp [results, Try.results15, go_sem, a0, a1, a2, a3]
        · obtain ⟨q0, q1, q2, q3, q4⟩ := Gm.bnd_err (e := (Gm.appE m0 m1 m2 m3 m4 m5 (max a c) (max b d))) (Gm.fst4_3 HE.out.1 HE.out.2.1 HE.out.2.2) HZ.out
          rw [q0, q1, q2, q3, q4]
        · exact ((HB.out.1.allocO _).trans k1).set4 (by omega) _ _ _ _
    · have HB := Lib.hid hb
      have HE := Lib.hid he
      obtain ⟨c0, c1, c2, c3, c4, c5, z0, z3⟩ := hb.reads
      clear hb he
      obtain ⟨a0, a1, a2, a3⟩ := HB.out.2.2.2.cells4
      obtain ⟨r0, r1, r2, r3⟩ := HB.out.2.2.1.cells4
      have rf := HB.out.2.2.1.free
      go_wp2_with fail
      refine bodyPost_ret (v := .tuple #[.agg #[.int .i64 (Gm.lo (Gm.appX m0 m1 m2 m3 m4 m5 (min a c) (min b d)) (Gm.appX m0 m1 m2 m3 m4 m5 (max a c) (min b d)) (Gm.appX m0 m1 m2 m3 m4 m5 (min a c) (max b d)) (Gm.appX m0 m1 m2 m3 m4 m5 (max a c) (max b d)) 4), .int .i64 (Gm.lo (Gm.appY m0 m1 m2 m3 m4 m5 (min a c) (min b d)) (Gm.appY m0 m1 m2 m3 m4 m5 (max a c) (min b d)) (Gm.appY m0 m1 m2 m3 m4 m5 (min a c) (max b d)) (Gm.appY m0 m1 m2 m3 m4 m5 (max a c) (max b d)) 4), .int .i64 (Gm.hi (Gm.appX m0 m1 m2 m3 m4 m5 (min a c) (min b d)) (Gm.appX m0 m1 m2 m3 m4 m5 (max a c) (min b d)) (Gm.appX m0 m1 m2 m3 m4 m5 (min a c) (max b d)) (Gm.appX m0 m1 m2 m3 m4 m5 (max a c) (max b d)) 4), .int .i64 (Gm.hi (Gm.appY m0 m1 m2 m3 m4 m5 (min a c) (min b d)) (Gm.appY m0 m1 m2 m3 m4 m5 (max a c) (min b d)) (Gm.appY m0 m1 m2 m3 m4 m5 (min a c) (max b d)) (Gm.appY m0 m1 m2 m3 m4 m5 (max a c) (max b d)) 4)], .int .i64 0]) ?_ rfl ⟨?_, ?_⟩
      · simp [results, Try.results15, go_sem, r0, r1, r2, r3]
      · obtain ⟨q0, q1, q2, q3, q4⟩ := H4.out HE.out
        rw [q0, q1, q2, q3, q4]
      · exact HB.out.1.set4 (by omega) _ _ _ _

end Go.Proofs.Ytbckjejflbfjlaa
