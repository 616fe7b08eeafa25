/-
  What package geom's Meet answers.
-/
import Derived.Test.YtbckjejflbfjlaaGeomSize
import Derived.Deep.RegionWith
import Derived.Deep.DeepCutAuto
namespace Go.Proofs.Ytbckjejflbfjlaa
open Go.RowKit
attribute [local go_sem ↓] run_least run_greatest

/-- What the two Norms leave. -/
def MeetAt (a b c d p q r s : Int) (w wx : World) : Prop :=
  Kept w wx ∧
  wx.cell? ⟨w.heap.size, 0, none⟩ = some (.int .i64 (min a c)) ∧
  wx.cell? ⟨w.heap.size, 1, none⟩ = some (.int .i64 (min b d)) ∧
  wx.cell? ⟨w.heap.size, 2, none⟩ = some (.int .i64 (max a c)) ∧
  wx.cell? ⟨w.heap.size, 3, none⟩ = some (.int .i64 (max b d)) ∧
  wx.cell? ⟨w.heap.size + 1, 0, none⟩ = some (.int .i64 (min p r)) ∧
  wx.cell? ⟨w.heap.size + 1, 1, none⟩ = some (.int .i64 (min q s)) ∧
  wx.cell? ⟨w.heap.size + 1, 2, none⟩ = some (.int .i64 (max p r)) ∧
  wx.cell? ⟨w.heap.size + 1, 3, none⟩ = some (.int .i64 (max q s)) ∧
  wx.cell? ⟨w.heap.size + 1 + 1, 0, none⟩ = some (.int .i64 0) ∧
  wx.cell? ⟨w.heap.size + 1 + 1, 1, none⟩ = some (.int .i64 0) ∧
  wx.cell? ⟨w.heap.size + 1 + 1, 2, none⟩ = some (.int .i64 0) ∧
  wx.cell? ⟨w.heap.size + 1 + 1, 3, none⟩ = some (.int .i64 0) ∧
  wx.frozen? ⟨w.heap.size + 1 + 1, 0, none⟩ = false ∧
  wx.frozen? ⟨w.heap.size + 1 + 1, 1, none⟩ = false ∧
  wx.frozen? ⟨w.heap.size + 1 + 1, 2, none⟩ = false ∧
  wx.frozen? ⟨w.heap.size + 1 + 1, 3, none⟩ = false ∧
  w.heap.size < wx.heap.size ∧
  w.heap.size + 1 < wx.heap.size ∧
  w.heap.size + 1 + 1 < wx.heap.size

set_option linter.unusedSimpArgs false in
set_option maxHeartbeats 1000000 in
theorem meetAt_of {a b c d p q r s : Int} {w w1 w2 : World} (k1 : Kept (((w.alloc (.cells #[.int .i64 a, .int .i64 b, .int .i64 c, .int .i64 d] 26)).alloc (.cells #[.int .i64 p, .int .i64 q, .int .i64 r, .int .i64 s] 26)).alloc (.cells #[.int .i64 0, .int .i64 0, .int .i64 0, .int .i64 0] 26)).drew w1) (k2 : Kept w1 w2) :
    MeetAt a b c d p q r s w ((((((((w2.setCell ⟨w.heap.size, 0, none⟩ (.int .i64 (min a c))).setCell ⟨w.heap.size, 1, none⟩ (.int .i64 (min b d))).setCell ⟨w.heap.size, 2, none⟩ (.int .i64 (max a c))).setCell ⟨w.heap.size, 3, none⟩ (.int .i64 (max b d))).setCell
      ⟨w.heap.size + 1, 0, none⟩ (.int .i64 (min p r))).setCell ⟨w.heap.size + 1, 1, none⟩ (.int .i64 (min q s))).setCell ⟨w.heap.size + 1, 2, none⟩ (.int .i64 (max p r))).setCell ⟨w.heap.size + 1, 3, none⟩ (.int .i64 (max q s))) := by
  obtain ⟨c1, f1⟩ := k1.cells
  obtain ⟨c2, f2⟩ := k2.cells
  obtain ⟨z1, y1, x1⟩ : w.heap.size < w1.heap.size ∧ w.heap.size + 1 < w1.heap.size ∧ w.heap.size + 1 + 1 < w1.heap.size := by have := Below.size k1; simp at this; omega
  have s2 := Below.size k2
  have g0 : w2.cell? ⟨w.heap.size, 0, none⟩ = some (.int .i64 a) := by
    rw [c2 _ _ z1, c1 _ _ (by simp; omega)]; simp [go_sem]
  have g1 : w2.cell? ⟨w.heap.size, 1, none⟩ = some (.int .i64 b) := by
    rw [c2 _ _ z1, c1 _ _ (by simp; omega)]; simp [go_sem]
  have g2 : w2.cell? ⟨w.heap.size, 2, none⟩ = some (.int .i64 c) := by
    rw [c2 _ _ z1, c1 _ _ (by simp; omega)]; simp [go_sem]
  have g3 : w2.cell? ⟨w.heap.size, 3, none⟩ = some (.int .i64 d) := by
    rw [c2 _ _ z1, c1 _ _ (by simp; omega)]; simp [go_sem]
  refine ⟨(((((((((((((Kept.refl w).alloc _ _).alloc _ _).alloc _ _).drew.trans k1).trans k2).set (by omega) _).set (by omega) _).set (by omega) _).set (by omega) _).set (by omega) _).set (by omega) _).set (by omega) _).set (by omega) _, ?_, ?_, ?_, ?_, ?_, ?_, ?_, ?_, ?_, ?_, ?_, ?_, ?_, ?_, ?_, ?_, ?_, ?_, ?_⟩
  all_goals first | (simp [go_sem, g0, g1, g2, g3]; done) | (simp [go_sem, c1, c2, z1, y1, x1]; done) | (simp [go_sem, f1, f2, z1, y1, x1]; done) | (simp; omega)

set_option maxHeartbeats 2000000 in
theorem Meet_yes (a b c d p q r s : Int) (w : World) (h : Gm.insB (max (min a c) (min p r)) (max (min b d) (min q s)) (min (max a c) (max p r)) (min (max b d) (max q s)) = true) :
    Calls Try.prog 23 #[.agg #[.int .i64 a, .int .i64 b, .int .i64 c, .int .i64 d], .agg #[.int .i64 p, .int .i64 q, .int .i64 r, .int .i64 s]] w fun e w' => e = .returned (.tuple #[.agg #[.int .i64 (max (min a c) (min p r)), .int .i64 (max (min b d) (min q s)), .int .i64 (min (max a c) (max p r)), .int .i64 (min (max b d) (max q s))], .bool true]) ∧ Kept w w' := by
  have H := Lib.hid (Gm.ins_iff.1 h)
  clear h
  go_enter Try.func23, Try.ntmps23
  go_upto_region 1 with fail
  go_cut [] (fun wx => MeetAt a b c d p q r s w wx)
  case first =>
    go_region_with (first
      | (go_at_call_of 27 (Value.agg #[.int .i64 a, .int .i64 b, .int .i64 c, .int .i64 d]); refine (Norm_any _ _ _ _ _).mono ?_; rintro e w1 ⟨rfl, k1⟩; obtain ⟨c1, f1⟩ := k1.cells; obtain ⟨z1, y1, x1⟩ : w.heap.size < w1.heap.size ∧ w.heap.size + 1 < w1.heap.size ∧ w.heap.size + 1 + 1 < w1.heap.size := by (have := Below.size k1; simp at this; omega))
      | (go_at_call_of 27 (Value.agg #[.int .i64 p, .int .i64 q, .int .i64 r, .int .i64 s]); refine (Norm_any _ _ _ _ _).mono ?_; rintro e w2 ⟨rfl, k2⟩; obtain ⟨c2, f2⟩ := k2.cells; obtain ⟨z2, y2, x2⟩ : w.heap.size < w2.heap.size ∧ w.heap.size + 1 < w2.heap.size ∧ w.heap.size + 1 + 1 < w2.heap.size := by (have := Below.size k2; omega)))
    all_goals
      go_wp2_with fail
      go_meet
      exact meetAt_of k1 k2
  case rest =>
    obtain ⟨hk, a0, a1, a2, a3, b0, b1, b2, b3, r0, r1, r2, r3, f0, f1, f2, f3, z0, z1, z2⟩ := hcut
    have HK := Lib.hid hk
    clear hk
    go_wp2_with fail
    refine (inside_yes _ _ _ _ _ H.out.1 H.out.2).mono ?_
    rintro e w3 ⟨rfl, k3⟩
    obtain ⟨c3, f3'⟩ := k3.cells
    go_wp2_with fail
    refine bodyPost_ret (v := .tuple #[.agg #[.int .i64 (max (min a c) (min p r)), .int .i64 (max (min b d) (min q s)), .int .i64 (min (max a c) (max p r)), .int .i64 (min (max b d) (max q s))], .bool true]) ?_ rfl ⟨rfl, ?_⟩
    · simp [results, Try.results23, go_sem, c3, z2, r0, r1, r2, r3]
    · exact ((((HK.out.trans k3).set (by omega) _).set (by omega) _).set (by omega) _).set (by omega) _

set_option maxHeartbeats 2000000 in
theorem Meet_no (a b c d p q r s : Int) (w : World) (h : Gm.insB (max (min a c) (min p r)) (max (min b d) (min q s)) (min (max a c) (max p r)) (min (max b d) (max q s)) = false) :
    Calls Try.prog 23 #[.agg #[.int .i64 a, .int .i64 b, .int .i64 c, .int .i64 d], .agg #[.int .i64 p, .int .i64 q, .int .i64 r, .int .i64 s]] w fun e w' => e = .returned (.tuple #[.agg #[.int .i64 0, .int .i64 0, .int .i64 0, .int .i64 0], .bool false]) ∧ Kept w w' := by
  have H := Lib.hid (Gm.ins_not h)
  clear h
  go_enter Try.func23, Try.ntmps23
  go_upto_region 1 with fail
  go_cut [] (fun wx => MeetAt a b c d p q r s w wx)
  case first =>
    go_region_with (first
      | (go_at_call_of 27 (Value.agg #[.int .i64 a, .int .i64 b, .int .i64 c, .int .i64 d]); refine (Norm_any _ _ _ _ _).mono ?_; rintro e w1 ⟨rfl, k1⟩; obtain ⟨c1, f1⟩ := k1.cells; obtain ⟨z1, y1, x1⟩ : w.heap.size < w1.heap.size ∧ w.heap.size + 1 < w1.heap.size ∧ w.heap.size + 1 + 1 < w1.heap.size := by (have := Below.size k1; simp at this; omega))
      | (go_at_call_of 27 (Value.agg #[.int .i64 p, .int .i64 q, .int .i64 r, .int .i64 s]); refine (Norm_any _ _ _ _ _).mono ?_; rintro e w2 ⟨rfl, k2⟩; obtain ⟨c2, f2⟩ := k2.cells; obtain ⟨z2, y2, x2⟩ : w.heap.size < w2.heap.size ∧ w.heap.size + 1 < w2.heap.size ∧ w.heap.size + 1 + 1 < w2.heap.size := by (have := Below.size k2; omega)))
    all_goals
      go_wp2_with fail
      go_meet
      exact meetAt_of k1 k2
  case rest =>
    obtain ⟨hk, a0, a1, a2, a3, b0, b1, b2, b3, r0, r1, r2, r3, f0, f1, f2, f3, z0, z1, z2⟩ := hcut
    have HK := Lib.hid hk
    clear hk
    go_wp2_with fail
    refine (inside_no _ _ _ _ _ H.out).mono ?_
    rintro e w3 ⟨rfl, k3⟩
    obtain ⟨c3, f3'⟩ := k3.cells
    go_wp2_with fail
    refine bodyPost_ret (v := .tuple #[.agg #[.int .i64 0, .int .i64 0, .int .i64 0, .int .i64 0], .bool false]) ?_ rfl ⟨rfl, ?_⟩
    · simp [results, Try.results23, go_sem, c3, z2, r0, r1, r2, r3]
    · exact ((((HK.out.trans k3).set (by omega) _).set (by omega) _).set (by omega) _).set (by omega) _

end Go.Proofs.Ytbckjejflbfjlaa
