/-
  What the document's own Bounds (the reference) answers.
-/
import Derived.Test.YtbckjejflbfjlaaGeomRefApply
import Derived.Test.YtbckjejflbfjlaaGeomRefRects
import Derived.Test.YtbckjejflbfjlaaGeomBoundsMath
import Derived.Test.YtbckjejflbfjlaaHas
namespace Go.Proofs.Ytbckjejflbfjlaa
open Go.RowKit
attribute [local go_sem ↓] run_least run_greatest

/-- What lies in memory at the head of round k. -/
def QIn (m0 m1 m2 m3 m4 m5 p q r s x0 x1 x2 x3 y0 y1 y2 y3 : Int) (w w1 : World) (k : Nat) (wr : World) : Prop := In w ((w1.heap.size + 1, #[.int .i64 (Gm.lo x0 x1 x2 x3 k), .int .i64 (Gm.lo y0 y1 y2 y3 k), .int .i64 (Gm.hi x0 x1 x2 x3 k), .int .i64 (Gm.hi y0 y1 y2 y3 k)], 26) :: [(w1.heap.size + 1 + 1, #[.int .i64 p, .int .i64 q, .int .i64 r, .int .i64 q, .int .i64 p, .int .i64 s, .int .i64 r, .int .i64 s], 59), (w.heap.size + 1 + 1, #[.int .i64 0, .int .i64 0, .int .i64 0, .int .i64 0], 26), (w.heap.size, #[.int .i64 m0, .int .i64 m1, .int .i64 m2, .int .i64 m3, .int .i64 m4, .int .i64 m5], 24)]) wr
section
variable {m0 m1 m2 m3 m4 m5 p q r s x0 x1 x2 x3 y0 y1 y2 y3 : Int} {w w1 wr v1 v2 : World} {k : Nat} {o : Obj} {u0 u1 u2 u3 : Int}
theorem q_ne (hz : w.heap.size + 3 ≤ w1.heap.size) : ∀ x ∈ ([(w1.heap.size + 1 + 1, #[.int .i64 p, .int .i64 q, .int .i64 r, .int .i64 q, .int .i64 p, .int .i64 s, .int .i64 r, .int .i64 s], 59), (w.heap.size + 1 + 1, #[.int .i64 0, .int .i64 0, .int .i64 0, .int .i64 0], 26), (w.heap.size, #[.int .i64 m0, .int .i64 m1, .int .i64 m2, .int .i64 m3, .int .i64 m4, .int .i64 m5], 24)] : BlkList), x.1 ≠ w1.heap.size + 1 := by
  intro x hx
  simp only [List.mem_cons, List.not_mem_nil, or_false] at hx
  rcases hx with rfl | rfl | rfl
  · show w1.heap.size + 1 + 1 ≠ w1.heap.size + 1; omega
  · show w.heap.size + 1 + 1 ≠ w1.heap.size + 1; omega
  · show w.heap.size ≠ w1.heap.size + 1; omega
theorem QIn.next (h : QIn m0 m1 m2 m3 m4 m5 p q r s x0 x1 x2 x3 y0 y1 y2 y3 w w1 k wr) (hz : w.heap.size + 3 ≤ w1.heap.size) (k1 : Kept (wr.alloc o) v1)
    (e0 : u0 = Gm.lo x0 x1 x2 x3 (k + 1)) (e1 : u1 = Gm.lo y0 y1 y2 y3 (k + 1)) (e2 : u2 = Gm.hi x0 x1 x2 x3 (k + 1)) (e3 : u3 = Gm.hi y0 y1 y2 y3 (k + 1)) :
    QIn m0 m1 m2 m3 m4 m5 p q r s x0 x1 x2 x3 y0 y1 y2 y3 w w1 (k + 1) ((((v1.setCell ⟨w1.heap.size + 1, 0, none⟩ (.int .i64 u0)).setCell ⟨w1.heap.size + 1, 1, none⟩ (.int .i64 u1)).setCell ⟨w1.heap.size + 1, 2, none⟩ (.int .i64 u2)).setCell ⟨w1.heap.size + 1, 3, none⟩ (.int .i64 u3)) := by
  subst e0 e1 e2 e3
  have q := In.kept (In.alloc h o) k1
  exact In.set4 (In.tail q) (q.mem (List.mem_cons_self)) (by omega) (q_ne hz) _ _ _ _
theorem QIn.first {t0 t1 t2 t3 : Value} (h : QIn m0 m1 m2 m3 m4 m5 p q r s x0 x1 x2 x3 y0 y1 y2 y3 w w1 0 wr) (hz : w.heap.size + 3 ≤ w1.heap.size) (k1 : Kept (wr.alloc o) v1)
    (e0 : u0 = Gm.lo x0 x1 x2 x3 1) (e1 : u1 = Gm.lo y0 y1 y2 y3 1) (e2 : u2 = Gm.hi x0 x1 x2 x3 1) (e3 : u3 = Gm.hi y0 y1 y2 y3 1) :
    QIn m0 m1 m2 m3 m4 m5 p q r s x0 x1 x2 x3 y0 y1 y2 y3 w w1 1 ((((((((v1.setCell ⟨w1.heap.size + 1, 0, none⟩ t0).setCell ⟨w1.heap.size + 1, 1, none⟩ t1).setCell ⟨w1.heap.size + 1, 2, none⟩ t2).setCell ⟨w1.heap.size + 1, 3, none⟩ t3).setCell ⟨w1.heap.size + 1, 0, none⟩ (.int .i64 u0)).setCell ⟨w1.heap.size + 1, 1, none⟩ (.int .i64 u1)).setCell ⟨w1.heap.size + 1, 2, none⟩ (.int .i64 u2)).setCell ⟨w1.heap.size + 1, 3, none⟩ (.int .i64 u3)) := by
  subst e0 e1 e2 e3
  have q := In.kept (In.alloc h o) k1
  have q2 := In.set4 (In.tail q) (q.mem (List.mem_cons_self)) (by omega) (q_ne hz) t0 t1 t2 t3
  exact In.set4 (In.tail q2) (q2.mem (List.mem_cons_self)) (by omega) (q_ne hz) _ _ _ _
theorem Blk.cells8 {w : World} {b : Nat} {v0 v1 v2 v3 v4 v5 v6 v7 : Value} {t : TypeId} (h : Blk w b #[v0, v1, v2, v3, v4, v5, v6, v7] t) : w.cell? ⟨b, 0, none⟩ = some v0 ∧ w.cell? ⟨b, 1, none⟩ = some v1 ∧ w.cell? ⟨b, 2, none⟩ = some v2 ∧ w.cell? ⟨b, 3, none⟩ = some v3 ∧ w.cell? ⟨b, 4, none⟩ = some v4 ∧ w.cell? ⟨b, 5, none⟩ = some v5 ∧ w.cell? ⟨b, 6, none⟩ = some v6 ∧ w.cell? ⟨b, 7, none⟩ = some v7 :=
  ⟨h.cell 0, h.cell 1, h.cell 2, h.cell 3, h.cell 4, h.cell 5, h.cell 6, h.cell 7⟩
end
def QRel (m0 m1 m2 m3 m4 m5 p q r s : Int) (w w1 : World) (i : Value) (wr : World) : Prop :=
  (i = .int .i64 0 ∧ QIn m0 m1 m2 m3 m4 m5 p q r s (Gm.appX m0 m1 m2 m3 m4 m5 p q) (Gm.appX m0 m1 m2 m3 m4 m5 r q) (Gm.appX m0 m1 m2 m3 m4 m5 p s) (Gm.appX m0 m1 m2 m3 m4 m5 r s) (Gm.appY m0 m1 m2 m3 m4 m5 p q) (Gm.appY m0 m1 m2 m3 m4 m5 r q) (Gm.appY m0 m1 m2 m3 m4 m5 p s) (Gm.appY m0 m1 m2 m3 m4 m5 r s) w w1 0 wr ∧ Gm.noErr (Gm.appE m0 m1 m2 m3 m4 m5 p q) (Gm.appE m0 m1 m2 m3 m4 m5 r q) (Gm.appE m0 m1 m2 m3 m4 m5 p s) (Gm.appE m0 m1 m2 m3 m4 m5 r s) 0) ∨ (i = .int .i64 1 ∧ QIn m0 m1 m2 m3 m4 m5 p q r s (Gm.appX m0 m1 m2 m3 m4 m5 p q) (Gm.appX m0 m1 m2 m3 m4 m5 r q) (Gm.appX m0 m1 m2 m3 m4 m5 p s) (Gm.appX m0 m1 m2 m3 m4 m5 r s) (Gm.appY m0 m1 m2 m3 m4 m5 p q) (Gm.appY m0 m1 m2 m3 m4 m5 r q) (Gm.appY m0 m1 m2 m3 m4 m5 p s) (Gm.appY m0 m1 m2 m3 m4 m5 r s) w w1 1 wr ∧ Gm.noErr (Gm.appE m0 m1 m2 m3 m4 m5 p q) (Gm.appE m0 m1 m2 m3 m4 m5 r q) (Gm.appE m0 m1 m2 m3 m4 m5 p s) (Gm.appE m0 m1 m2 m3 m4 m5 r s) 1) ∨ (i = .int .i64 2 ∧ QIn m0 m1 m2 m3 m4 m5 p q r s (Gm.appX m0 m1 m2 m3 m4 m5 p q) (Gm.appX m0 m1 m2 m3 m4 m5 r q) (Gm.appX m0 m1 m2 m3 m4 m5 p s) (Gm.appX m0 m1 m2 m3 m4 m5 r s) (Gm.appY m0 m1 m2 m3 m4 m5 p q) (Gm.appY m0 m1 m2 m3 m4 m5 r q) (Gm.appY m0 m1 m2 m3 m4 m5 p s) (Gm.appY m0 m1 m2 m3 m4 m5 r s) w w1 2 wr ∧ Gm.noErr (Gm.appE m0 m1 m2 m3 m4 m5 p q) (Gm.appE m0 m1 m2 m3 m4 m5 r q) (Gm.appE m0 m1 m2 m3 m4 m5 p s) (Gm.appE m0 m1 m2 m3 m4 m5 r s) 2) ∨ (i = .int .i64 3 ∧ QIn m0 m1 m2 m3 m4 m5 p q r s (Gm.appX m0 m1 m2 m3 m4 m5 p q) (Gm.appX m0 m1 m2 m3 m4 m5 r q) (Gm.appX m0 m1 m2 m3 m4 m5 p s) (Gm.appX m0 m1 m2 m3 m4 m5 r s) (Gm.appY m0 m1 m2 m3 m4 m5 p q) (Gm.appY m0 m1 m2 m3 m4 m5 r q) (Gm.appY m0 m1 m2 m3 m4 m5 p s) (Gm.appY m0 m1 m2 m3 m4 m5 r s) w w1 3 wr ∧ Gm.noErr (Gm.appE m0 m1 m2 m3 m4 m5 p q) (Gm.appE m0 m1 m2 m3 m4 m5 r q) (Gm.appE m0 m1 m2 m3 m4 m5 p s) (Gm.appE m0 m1 m2 m3 m4 m5 r s) 3) ∨ (i = .int .i64 4 ∧ QIn m0 m1 m2 m3 m4 m5 p q r s (Gm.appX m0 m1 m2 m3 m4 m5 p q) (Gm.appX m0 m1 m2 m3 m4 m5 r q) (Gm.appX m0 m1 m2 m3 m4 m5 p s) (Gm.appX m0 m1 m2 m3 m4 m5 r s) (Gm.appY m0 m1 m2 m3 m4 m5 p q) (Gm.appY m0 m1 m2 m3 m4 m5 r q) (Gm.appY m0 m1 m2 m3 m4 m5 p s) (Gm.appY m0 m1 m2 m3 m4 m5 r s) w w1 4 wr ∧ Gm.noErr (Gm.appE m0 m1 m2 m3 m4 m5 p q) (Gm.appE m0 m1 m2 m3 m4 m5 r q) (Gm.appE m0 m1 m2 m3 m4 m5 p s) (Gm.appE m0 m1 m2 m3 m4 m5 r s) 4)

set_option maxHeartbeats 8000000 in
set_option maxRecDepth 100000 in
theorem RBounds_any (m0 m1 m2 m3 m4 m5 a b c d : Int) (w : World) :
    Calls Try.prog 16 #[.agg #[.int .i64 m0, .int .i64 m1, .int .i64 m2, .int .i64 m3, .int .i64 m4, .int .i64 m5], .agg #[.int .i64 a, .int .i64 b, .int .i64 c, .int .i64 d]] w fun e w' => e = .returned (.tuple #[.agg #[.int .i64 (Gm.bndA m0 m1 m2 m3 m4 m5 (min a c) (min b d) (max a c) (max b d)), .int .i64 (Gm.bndB m0 m1 m2 m3 m4 m5 (min a c) (min b d) (max a c) (max b d)), .int .i64 (Gm.bndC m0 m1 m2 m3 m4 m5 (min a c) (min b d) (max a c) (max b d)), .int .i64 (Gm.bndD m0 m1 m2 m3 m4 m5 (min a c) (min b d) (max a c) (max b d))], .int .i64 (Gm.bndE m0 m1 m2 m3 m4 m5 (min a c) (min b d) (max a c) (max b d))]) ∧ Kept w w' := by
  have H4 := Lib.hid (fun h => Gm.bnd_ok (m0 := m0) (m1 := m1) (m2 := m2) (m3 := m3) (m4 := m4) (m5 := m5) (p := min a c) (q := min b d) (r := max a c) (s := max b d) h)
  go_enter Try.func16, Try.ntmps16
  go_wp2_with fail
  refine (RNorm_kept a b c d _).mono ?_
  rintro e w1 ⟨rfl, k1⟩
  have HZ := Lib.hid (show w.heap.size + 3 ≤ w1.heap.size by have := Below.size k1; simp at this; omega)
  have HS := Lib.hid (show QIn m0 m1 m2 m3 m4 m5 (min a c) (min b d) (max a c) (max b d) (Gm.appX m0 m1 m2 m3 m4 m5 (min a c) (min b d)) (Gm.appX m0 m1 m2 m3 m4 m5 (max a c) (min b d)) (Gm.appX m0 m1 m2 m3 m4 m5 (min a c) (max b d)) (Gm.appX m0 m1 m2 m3 m4 m5 (max a c) (max b d)) (Gm.appY m0 m1 m2 m3 m4 m5 (min a c) (min b d)) (Gm.appY m0 m1 m2 m3 m4 m5 (max a c) (min b d)) (Gm.appY m0 m1 m2 m3 m4 m5 (min a c) (max b d)) (Gm.appY m0 m1 m2 m3 m4 m5 (max a c) (max b d)) w w1 0 (((w1.alloc (.cells #[.int .i64 (min a c), .int .i64 (min b d), .int .i64 (max a c), .int .i64 (max b d)] 26)).alloc (.cells #[.int .i64 0, .int .i64 0, .int .i64 0, .int .i64 0] 26)).alloc (.cells #[.int .i64 (min a c), .int .i64 (min b d), .int .i64 (max a c), .int .i64 (min b d), .int .i64 (min a c), .int .i64 (max b d), .int .i64 (max a c), .int .i64 (max b d)] 59)) from by
    have x0 := In.kept (In.fresh' (k := w.heap.size + 1 + 1) (In.alloc (In.fresh (In.start w) #[.int .i64 m0, .int .i64 m1, .int .i64 m2, .int .i64 m3, .int .i64 m4, .int .i64 m5] 24) (.cells #[.int .i64 a, .int .i64 b, .int .i64 c, .int .i64 d] 26)) #[.int .i64 0, .int .i64 0, .int .i64 0, .int .i64 0] 26 (by simp)) k1
    have x1 := In.alloc x0 (.cells #[.int .i64 (min a c), .int .i64 (min b d), .int .i64 (max a c), .int .i64 (max b d)] 26)
    have x2 := Blk.fresh' (w := w1.alloc (.cells #[.int .i64 (min a c), .int .i64 (min b d), .int .i64 (max a c), .int .i64 (max b d)] 26)) (b := w1.heap.size + 1) #[.int .i64 0, .int .i64 0, .int .i64 0, .int .i64 0] 26 (by simp)
    have x3 := In.fresh' (k := w1.heap.size + 1 + 1) (In.alloc x1 (.cells #[.int .i64 0, .int .i64 0, .int .i64 0, .int .i64 0] 26)) #[.int .i64 (min a c), .int .i64 (min b d), .int .i64 (max a c), .int .i64 (min b d), .int .i64 (min a c), .int .i64 (max b d), .int .i64 (max a c), .int .i64 (max b d)] 59 (by simp)
    exact In.cons x3 (x2.alloc _))
  clear k1
  go_wp2_with fail
  go_loopw [37] (fun i wr => QRel m0 m1 m2 m3 m4 m5 (min a c) (min b d) (max a c) (max b d) w w1 i wr) (fun i _ => 4 - (intOf i).toNat)
  case atStart => exact .inl ⟨rfl, HS.out, trivial⟩
  case round =>
    clear HS
    rcases hrel with ⟨rfl, hb, he⟩ | ⟨rfl, hb, he⟩ | ⟨rfl, hb, he⟩ | ⟨rfl, hb, he⟩ | ⟨rfl, hb, he⟩
    · have HB := Lib.hid (show In w _ wr from hb)
      have HQ := Lib.hid hb
      have HE := Lib.hid he
      clear hb he
      obtain ⟨c0, c1, c2, c3, c4, c5⟩ := (HB.out.mem (List.mem_cons_of_mem _ (List.mem_cons_of_mem _ (List.mem_cons_of_mem _ (List.mem_cons_self))))).cells6
      have cz := (HB.out.mem (List.mem_cons_of_mem _ (List.mem_cons_of_mem _ (List.mem_cons_of_mem _ (List.mem_cons_self))))).lt
      obtain ⟨d0, d1, d2, d3, d4, d5, d6, d7⟩ := (HB.out.mem (List.mem_cons_of_mem _ (List.mem_cons_self))).cells8
      by_cases h : Gm.appE m0 m1 m2 m3 m4 m5 (min a c) (min b d) = 0
      · have t0 := ne_no h
        have HV := Lib.hid h
        clear h
        go_wp2_with fail
        refine (RApply_any m0 m1 m2 m3 m4 m5 (min a c) (min b d) _).mono ?_
        rintro e v1 ⟨rfl, k1⟩
        have HN := Lib.hid (In.kept (In.alloc HB.out _) k1)
        obtain ⟨a0, a1, a2, a3⟩ := (HN.out.mem (List.mem_cons_self)).cells4
        have af := (HN.out.mem (List.mem_cons_self)).free
        clear c0 c1 c2 c3 c4 c5 d0 d1 d2 d3 d4 d5 d6 d7
        go_wp2_with fail
        go_roundw
        case rel => exact .inr (.inl (⟨rfl, HQ.out.first HZ.out k1 (by simp [Gm.lo]) (by simp [Gm.lo]) (by simp [Gm.hi]) (by simp [Gm.hi]), HV.out⟩))
        case measure => simp [intOf]
      · have t0 := ne_yes h
        have HV := Lib.hid h
        clear h
        go_wp2_with fail
        refine (RApply_any m0 m1 m2 m3 m4 m5 (min a c) (min b d) _).mono ?_
        rintro e v1 ⟨rfl, k1⟩
        have HN := Lib.hid (In.kept (In.alloc HB.out _) k1)
        obtain ⟨a0, a1, a2, a3⟩ := (HN.out.mem (List.mem_cons_of_mem _ (List.mem_cons_of_mem _ (List.mem_cons_self)))).cells4
        have af := (HN.out.mem (List.mem_cons_of_mem _ (List.mem_cons_of_mem _ (List.mem_cons_self)))).free
        clear c0 c1 c2 c3 c4 c5 d0 d1 d2 d3 d4 d5 d6 d7
        go_wp2_with fail
        refine bodyPost_ret (v := .tuple #[.agg #[.int .i64 0, .int .i64 0, .int .i64 0, .int .i64 0], .int .i64 (Gm.appE m0 m1 m2 m3 m4 m5 (min a c) (min b d))]) ?_ rfl ⟨?_, ?_⟩
        · simp [results, Try.results16, go_sem, a0, a1, a2, a3]
        · obtain ⟨q0, q1, q2, q3, q4⟩ := Gm.bnd_err (e := (Gm.appE m0 m1 m2 m3 m4 m5 (min a c) (min b d))) (Gm.fst4_0 HV.out) HV.out
          rw [q0, q1, q2, q3, q4]
        · exact HN.out.1.set4 (by omega) _ _ _ _
    · have HB := Lib.hid (show In w _ wr from hb)
      have HQ := Lib.hid hb
      have HE := Lib.hid he
      clear hb he
      obtain ⟨c0, c1, c2, c3, c4, c5⟩ := (HB.out.mem (List.mem_cons_of_mem _ (List.mem_cons_of_mem _ (List.mem_cons_of_mem _ (List.mem_cons_self))))).cells6
      have cz := (HB.out.mem (List.mem_cons_of_mem _ (List.mem_cons_of_mem _ (List.mem_cons_of_mem _ (List.mem_cons_self))))).lt
      obtain ⟨d0, d1, d2, d3, d4, d5, d6, d7⟩ := (HB.out.mem (List.mem_cons_of_mem _ (List.mem_cons_self))).cells8
      by_cases h : Gm.appE m0 m1 m2 m3 m4 m5 (max a c) (min b d) = 0
      · have t0 := ne_no h
        have HV := Lib.hid h
        clear h
        go_wp2_with fail
        refine (RApply_any m0 m1 m2 m3 m4 m5 (max a c) (min b d) _).mono ?_
        rintro e v1 ⟨rfl, k1⟩
        have HN := Lib.hid (In.kept (In.alloc HB.out _) k1)
        obtain ⟨a0, a1, a2, a3⟩ := (HN.out.mem (List.mem_cons_self)).cells4
        have af := (HN.out.mem (List.mem_cons_self)).free
        clear c0 c1 c2 c3 c4 c5 d0 d1 d2 d3 d4 d5 d6 d7
        go_wp2_with fail
        go_roundw
        case rel => exact .inr (.inr (.inl (⟨rfl, HQ.out.next HZ.out k1 rfl rfl rfl rfl, ⟨HE.out, HV.out⟩⟩)))
        case measure => simp [intOf]
      · have t0 := ne_yes h
        have HV := Lib.hid h
        clear h
        go_wp2_with fail
        refine (RApply_any m0 m1 m2 m3 m4 m5 (max a c) (min b d) _).mono ?_
        rintro e v1 ⟨rfl, k1⟩
        have HN := Lib.hid (In.kept (In.alloc HB.out _) k1)
        obtain ⟨a0, a1, a2, a3⟩ := (HN.out.mem (List.mem_cons_of_mem _ (List.mem_cons_of_mem _ (List.mem_cons_self)))).cells4
        have af := (HN.out.mem (List.mem_cons_of_mem _ (List.mem_cons_of_mem _ (List.mem_cons_self)))).free
        clear c0 c1 c2 c3 c4 c5 d0 d1 d2 d3 d4 d5 d6 d7
        go_wp2_with fail
        refine bodyPost_ret (v := .tuple #[.agg #[.int .i64 0, .int .i64 0, .int .i64 0, .int .i64 0], .int .i64 (Gm.appE m0 m1 m2 m3 m4 m5 (max a c) (min b d))]) ?_ rfl ⟨?_, ?_⟩
        · simp [results, Try.results16, go_sem, a0, a1, a2, a3]
        · obtain ⟨q0, q1, q2, q3, q4⟩ := Gm.bnd_err (e := (Gm.appE m0 m1 m2 m3 m4 m5 (max a c) (min b d))) (Gm.fst4_1 HE.out HV.out) HV.out
          rw [q0, q1, q2, q3, q4]
        · exact HN.out.1.set4 (by omega) _ _ _ _
    · have HB := Lib.hid (show In w _ wr from hb)
      have HQ := Lib.hid hb
      have HE := Lib.hid he
      clear hb he
      obtain ⟨c0, c1, c2, c3, c4, c5⟩ := (HB.out.mem (List.mem_cons_of_mem _ (List.mem_cons_of_mem _ (List.mem_cons_of_mem _ (List.mem_cons_self))))).cells6
      have cz := (HB.out.mem (List.mem_cons_of_mem _ (List.mem_cons_of_mem _ (List.mem_cons_of_mem _ (List.mem_cons_self))))).lt
      obtain ⟨d0, d1, d2, d3, d4, d5, d6, d7⟩ := (HB.out.mem (List.mem_cons_of_mem _ (List.mem_cons_self))).cells8
      by_cases h : Gm.appE m0 m1 m2 m3 m4 m5 (min a c) (max b d) = 0
      · have t0 := ne_no h
        have HV := Lib.hid h
        clear h
        go_wp2_with fail
        refine (RApply_any m0 m1 m2 m3 m4 m5 (min a c) (max b d) _).mono ?_
        rintro e v1 ⟨rfl, k1⟩
        have HN := Lib.hid (In.kept (In.alloc HB.out _) k1)
        obtain ⟨a0, a1, a2, a3⟩ := (HN.out.mem (List.mem_cons_self)).cells4
        have af := (HN.out.mem (List.mem_cons_self)).free
        clear c0 c1 c2 c3 c4 c5 d0 d1 d2 d3 d4 d5 d6 d7
        go_wp2_with fail
        go_roundw
        case rel => exact .inr (.inr (.inr (.inl (⟨rfl, HQ.out.next HZ.out k1 rfl rfl rfl rfl, ⟨HE.out.1, HE.out.2, HV.out⟩⟩))))
        case measure => simp [intOf]
      · have t0 := ne_yes h
        have HV := Lib.hid h
        clear h
        go_wp2_with fail
        refine (RApply_any m0 m1 m2 m3 m4 m5 (min a c) (max b d) _).mono ?_
        rintro e v1 ⟨rfl, k1⟩
        have HN := Lib.hid (In.kept (In.alloc HB.out _) k1)
        obtain ⟨a0, a1, a2, a3⟩ := (HN.out.mem (List.mem_cons_of_mem _ (List.mem_cons_of_mem _ (List.mem_cons_self)))).cells4
        have af := (HN.out.mem (List.mem_cons_of_mem _ (List.mem_cons_of_mem _ (List.mem_cons_self)))).free
        clear c0 c1 c2 c3 c4 c5 d0 d1 d2 d3 d4 d5 d6 d7
        go_wp2_with fail
        refine bodyPost_ret (v := .tuple #[.agg #[.int .i64 0, .int .i64 0, .int .i64 0, .int .i64 0], .int .i64 (Gm.appE m0 m1 m2 m3 m4 m5 (min a c) (max b d))]) ?_ rfl ⟨?_, ?_⟩
        · simp [results, Try.results16, go_sem, a0, a1, a2, a3]
        · obtain ⟨q0, q1, q2, q3, q4⟩ := Gm.bnd_err (e := (Gm.appE m0 m1 m2 m3 m4 m5 (min a c) (max b d))) (Gm.fst4_2 HE.out.1 HE.out.2 HV.out) HV.out
          rw [q0, q1, q2, q3, q4]
        · exact HN.out.1.set4 (by omega) _ _ _ _
    · have HB := Lib.hid (show In w _ wr from hb)
      have HQ := Lib.hid hb
      have HE := Lib.hid he
      clear hb he
      obtain ⟨c0, c1, c2, c3, c4, c5⟩ := (HB.out.mem (List.mem_cons_of_mem _ (List.mem_cons_of_mem _ (List.mem_cons_of_mem _ (List.mem_cons_self))))).cells6
      have cz := (HB.out.mem (List.mem_cons_of_mem _ (List.mem_cons_of_mem _ (List.mem_cons_of_mem _ (List.mem_cons_self))))).lt
      obtain ⟨d0, d1, d2, d3, d4, d5, d6, d7⟩ := (HB.out.mem (List.mem_cons_of_mem _ (List.mem_cons_self))).cells8
      by_cases h : Gm.appE m0 m1 m2 m3 m4 m5 (max a c) (max b d) = 0
      · have t0 := ne_no h
        have HV := Lib.hid h
        clear h
        go_wp2_with fail
        refine (RApply_any m0 m1 m2 m3 m4 m5 (max a c) (max b d) _).mono ?_
        rintro e v1 ⟨rfl, k1⟩
        have HN := Lib.hid (In.kept (In.alloc HB.out _) k1)
        obtain ⟨a0, a1, a2, a3⟩ := (HN.out.mem (List.mem_cons_self)).cells4
        have af := (HN.out.mem (List.mem_cons_self)).free
        clear c0 c1 c2 c3 c4 c5 d0 d1 d2 d3 d4 d5 d6 d7
        go_wp2_with fail
        go_roundw
        case rel => exact .inr (.inr (.inr (.inr (⟨rfl, HQ.out.next HZ.out k1 rfl rfl rfl rfl, ⟨HE.out.1, HE.out.2.1, HE.out.2.2, HV.out⟩⟩))))
        case measure => simp [intOf]
      · have t0 := ne_yes h
        have HV := Lib.hid h
        clear h
        go_wp2_with fail
        refine (RApply_any m0 m1 m2 m3 m4 m5 (max a c) (max b d) _).mono ?_
        rintro e v1 ⟨rfl, k1⟩
        have HN := Lib.hid (In.kept (In.alloc HB.out _) k1)
        obtain ⟨a0, a1, a2, a3⟩ := (HN.out.mem (List.mem_cons_of_mem _ (List.mem_cons_of_mem _ (List.mem_cons_self)))).cells4
        have af := (HN.out.mem (List.mem_cons_of_mem _ (List.mem_cons_of_mem _ (List.mem_cons_self)))).free
        clear c0 c1 c2 c3 c4 c5 d0 d1 d2 d3 d4 d5 d6 d7
        go_wp2_with fail
        refine bodyPost_ret (v := .tuple #[.agg #[.int .i64 0, .int .i64 0, .int .i64 0, .int .i64 0], .int .i64 (Gm.appE m0 m1 m2 m3 m4 m5 (max a c) (max b d))]) ?_ rfl ⟨?_, ?_⟩
        · simp [results, Try.results16, go_sem, a0, a1, a2, a3]
        · obtain ⟨q0, q1, q2, q3, q4⟩ := Gm.bnd_err (e := (Gm.appE m0 m1 m2 m3 m4 m5 (max a c) (max b d))) (Gm.fst4_3 HE.out.1 HE.out.2.1 HE.out.2.2) HV.out
          rw [q0, q1, q2, q3, q4]
        · exact HN.out.1.set4 (by omega) _ _ _ _
    · have HB := Lib.hid (show In w _ wr from hb)
      have HQ := Lib.hid hb
      have HE := Lib.hid he
      clear hb he
      obtain ⟨a0, a1, a2, a3⟩ := (HB.out.mem (List.mem_cons_self)).cells4
      obtain ⟨r0, r1, r2, r3⟩ := (HB.out.mem (List.mem_cons_of_mem _ (List.mem_cons_of_mem _ (List.mem_cons_self)))).cells4
      have rf := (HB.out.mem (List.mem_cons_of_mem _ (List.mem_cons_of_mem _ (List.mem_cons_self)))).free
      go_wp2_with fail
      refine bodyPost_ret (v := .tuple #[.agg #[.int .i64 (Gm.lo (Gm.appX m0 m1 m2 m3 m4 m5 (min a c) (min b d)) (Gm.appX m0 m1 m2 m3 m4 m5 (max a c) (min b d)) (Gm.appX m0 m1 m2 m3 m4 m5 (min a c) (max b d)) (Gm.appX m0 m1 m2 m3 m4 m5 (max a c) (max b d)) 4), .int .i64 (Gm.lo (Gm.appY m0 m1 m2 m3 m4 m5 (min a c) (min b d)) (Gm.appY m0 m1 m2 m3 m4 m5 (max a c) (min b d)) (Gm.appY m0 m1 m2 m3 m4 m5 (min a c) (max b d)) (Gm.appY m0 m1 m2 m3 m4 m5 (max a c) (max b d)) 4), .int .i64 (Gm.hi (Gm.appX m0 m1 m2 m3 m4 m5 (min a c) (min b d)) (Gm.appX m0 m1 m2 m3 m4 m5 (max a c) (min b d)) (Gm.appX m0 m1 m2 m3 m4 m5 (min a c) (max b d)) (Gm.appX m0 m1 m2 m3 m4 m5 (max a c) (max b d)) 4), .int .i64 (Gm.hi (Gm.appY m0 m1 m2 m3 m4 m5 (min a c) (min b d)) (Gm.appY m0 m1 m2 m3 m4 m5 (max a c) (min b d)) (Gm.appY m0 m1 m2 m3 m4 m5 (min a c) (max b d)) (Gm.appY m0 m1 m2 m3 m4 m5 (max a c) (max b d)) 4)], .int .i64 0]) ?_ rfl ⟨?_, ?_⟩
      · simp [results, Try.results16, go_sem, r0, r1, r2, r3]
      · obtain ⟨q0, q1, q2, q3, q4⟩ := H4.out HE.out
        rw [q0, q1, q2, q3, q4]
      · exact HB.out.1.set4 (by omega) _ _ _ _

end Go.Proofs.Ytbckjejflbfjlaa
