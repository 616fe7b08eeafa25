/-
  What the document's own Inset (the reference) answers.
-/
import Derived.Test.YtbckjejflbfjlaaGeomRefRects
import Derived.Test.YtbckjejflbfjlaaGeomSizesMath
import Derived.Deep.RegionHeld3
import Derived.Deep.DeepCutAuto
namespace Go.Proofs.Ytbckjejflbfjlaa
open Go.RowKit

def RInsetAt (a b c d h : Int) (w : World) (g : Value) (wx : World) : Prop := g = .pointer (some ⟨w.heap.size + 1 + 1 + 1 + 1 + 1 + 1, 0, none⟩) ∧ wx = (((((((w.alloc (.cells #[.int .i64 a, .int .i64 b, .int .i64 c, .int .i64 d] 26)).alloc (.cells #[.int .i64 0, .int .i64 0, .int .i64 0, .int .i64 0] 26)).alloc (.cells #[.int .i64 a, .int .i64 b, .int .i64 c, .int .i64 d] 26)).alloc (.cells #[.int .i64 (min a c), .int .i64 (min b d), .int .i64 (max a c), .int .i64 (max b d)] 26)).alloc (.cells #[.int .i64 (min a c), .int .i64 (min b d), .int .i64 (max a c), .int .i64 (max b d)] 26)).alloc (.cells #[.int .i64 (Gm.fst (Gm.fst (Gm.fst (Gm.fst 0 (Fx.addE (min a c) h)) (Fx.addE (min b d) h)) (Fx.subE (max a c) h)) (Fx.subE (max b d) h))] 55)).alloc (.cells #[.int .i64 (Fx.addV (min a c) h), .int .i64 (Fx.addV (min b d) h), .int .i64 (Fx.subV (max a c) h), .int .i64 (Fx.subV (max b d) h)] 26)).drew
theorem Gm.set_state {a b c d h : Int} : (Gm.fst (Gm.fst (Gm.fst (Gm.fst 0 (Fx.addE (min a c) h)) (Fx.addE (min b d) h)) (Fx.subE (max a c) h)) (Fx.subE (max b d) h)) = 0 ↔ (Fx.addE (min a c) h) = 0 ∧ (Fx.addE (min b d) h) = 0 ∧ (Fx.subE (max a c) h) = 0 ∧ (Fx.subE (max b d) h) = 0 := by
  rw [Gm.fst_zero, Gm.fst_eq_zero, Gm.fst_eq_zero, Gm.fst_eq_zero]
  exact ⟨fun ⟨⟨⟨x, y⟩, z⟩, u⟩ => ⟨x, y, z, u⟩, fun ⟨x, y, z, u⟩ => ⟨⟨⟨x, y⟩, z⟩, u⟩⟩
theorem Gm.setB_iff {a b c d h : Int} : Gm.setB a b c d h = true ↔ (Gm.fst (Gm.fst (Gm.fst (Gm.fst 0 (Fx.addE (min a c) h)) (Fx.addE (min b d) h)) (Fx.subE (max a c) h)) (Fx.subE (max b d) h)) = 0 ∧ (Fx.addV (min a c) h) < (Fx.subV (max a c) h) ∧ (Fx.addV (min b d) h) < (Fx.subV (max b d) h) := by
  unfold Gm.setB
  rw [Gm.set_state]
  simp only [Bool.and_eq_true, decide_eq_true_eq, Gm.ins_iff]
  exact ⟨fun ⟨x, y, z, u, v, o⟩ => ⟨⟨x, y, z, u⟩, v, o⟩, fun ⟨⟨x, y, z, u⟩, v, o⟩ => ⟨x, y, z, u, v, o⟩⟩
theorem Gm.setB_not {a b c d h : Int} (k : ¬ ((Gm.fst (Gm.fst (Gm.fst (Gm.fst 0 (Fx.addE (min a c) h)) (Fx.addE (min b d) h)) (Fx.subE (max a c) h)) (Fx.subE (max b d) h)) = 0 ∧ (Fx.addV (min a c) h) < (Fx.subV (max a c) h) ∧ (Fx.addV (min b d) h) < (Fx.subV (max b d) h))) : Gm.setB a b c d h = false := by
  cases q : Gm.setB a b c d h
  · rfl
  · exact absurd (Gm.setB_iff.1 q) k

set_option maxHeartbeats 8000000 in
theorem RInset_any (a b c d h : Int) (w : World) :
    Calls Try.prog 26 #[.agg #[.int .i64 a, .int .i64 b, .int .i64 c, .int .i64 d], .int .i64 h] w fun e w' => e = .returned (.tuple #[.agg #[.int .i64 (Gm.yif (Gm.setB a b c d h) (Fx.addV (min a c) h)), .int .i64 (Gm.yif (Gm.setB a b c d h) (Fx.addV (min b d) h)), .int .i64 (Gm.yif (Gm.setB a b c d h) (Fx.subV (max a c) h)), .int .i64 (Gm.yif (Gm.setB a b c d h) (Fx.subV (max b d) h))], .bool (Gm.setB a b c d h)]) ∧ Kept w w' := by
  have z2 := Gm.zif_sub (max a c) h
  have z3 := Gm.zif_sub (max b d) h
  go_enter Try.func26, Try.ntmps26
  go_wp2_with fail
  refine (RNorm_any a b c d _).mono ?_
  rintro e w1 ⟨rfl, rfl⟩
  go_upto_region 3 with fail
  go_cut [8] (fun g wx => RInsetAt a b c d h w g wx)
  case first =>
    go_region_held3 (fun w' => w'.cell? ⟨w.heap.size + 1 + 1 + 1 + 1, 0, none⟩ = some (.int .i64 (min a c)) ∧ w'.cell? ⟨w.heap.size + 1 + 1 + 1 + 1, 1, none⟩ = some (.int .i64 (min b d)) ∧ w'.cell? ⟨w.heap.size + 1 + 1 + 1 + 1, 2, none⟩ = some (.int .i64 (max a c)) ∧ w'.cell? ⟨w.heap.size + 1 + 1 + 1 + 1, 3, none⟩ = some (.int .i64 (max b d))) (first | (simp [go_sem]; done) | go_keep)
      (first
        | (go_at_call_of 34 (Value.int .i64 (min a c)); refine (plus_any _ 0 (min a c) h _ (by simp [go_sem]) (by simp [go_sem])).mono ?_; rintro e w1 ⟨rfl, rfl⟩)
        | (go_at_call_of 34 (Value.int .i64 (min b d)); refine (plus_any _ (Gm.fst 0 (Fx.addE (min a c) h)) (min b d) h _ (by simp [go_sem]) (by simp [go_sem])).mono ?_; rintro e w1 ⟨rfl, rfl⟩)
        | (go_at_call 43; refine (RSub_any _ _ _).mono ?_; rintro e w1 ⟨rfl, rfl⟩)
        | (go_at_call_of 40 (Value.int .i64 (Fx.subE (max a c) h)); refine (take_any _ (Gm.fst (Gm.fst 0 (Fx.addE (min a c) h)) (Fx.addE (min b d) h)) _ (Fx.subE (max a c) h) _ (by simp [go_sem]) (by simp [go_sem])).mono ?_; rintro e w1 ⟨rfl, rfl⟩)
        | (go_at_call_of 40 (Value.int .i64 (Fx.subE (max b d) h)); refine (take_any _ (Gm.fst (Gm.fst (Gm.fst 0 (Fx.addE (min a c) h)) (Fx.addE (min b d) h)) (Fx.subE (max a c) h)) _ (Fx.subE (max b d) h) _ (by simp [go_sem]) (by simp [go_sem])).mono ?_; rintro e w1 ⟨rfl, rfl⟩))
    all_goals
      go_wp2_with fail
      go_meet
    all_goals exact ⟨rfl, rfl⟩
  case rest =>
    obtain ⟨rfl, rfl⟩ := hcut
    clear z2 z3
    by_cases h0 : (Gm.fst (Gm.fst (Gm.fst (Gm.fst 0 (Fx.addE (min a c) h)) (Fx.addE (min b d) h)) (Fx.subE (max a c) h)) (Fx.subE (max b d) h)) = 0
    · have t0 := ne_no h0
      by_cases h1 : (Fx.addV (min a c) h) < (Fx.subV (max a c) h)
      · by_cases h2 : (Fx.addV (min b d) h) < (Fx.subV (max b d) h)
        · have HB := Lib.hid ((Gm.setB_iff (a := a) (b := b) (c := c) (d := d) (h := h)).2 ⟨h0, h1, h2⟩)
          clear h0
          go_wp2_with fail
          refine bodyPost_ret (v := .tuple #[.agg #[.int .i64 (Fx.addV (min a c) h), .int .i64 (Fx.addV (min b d) h), .int .i64 (Fx.subV (max a c) h), .int .i64 (Fx.subV (max b d) h)], .bool true]) ?_ rfl ⟨?_, ?_⟩
          · simp [results, Try.results26, go_sem]
          · rw [HB.out]
            simp only [Gm.yif_ok rfl]
          · exact Kept.drew (((((((Kept.allocO (Kept.refl w) _).allocO _).allocO _).allocO _).allocO _).allocO _).allocO _)
        · have HB := Lib.hid (Gm.setB_not (a := a) (b := b) (c := c) (d := d) (h := h) (fun k => h2 k.2.2))
          clear h0
          go_wp2_with fail
          refine bodyPost_ret (v := .tuple #[.agg #[.int .i64 0, .int .i64 0, .int .i64 0, .int .i64 0], .bool false]) ?_ rfl ⟨?_, ?_⟩
          · simp [results, Try.results26, go_sem]
          · rw [HB.out]
            simp only [Gm.yif_no rfl]
          · exact Kept.drew (((((((Kept.allocO (Kept.refl w) _).allocO _).allocO _).allocO _).allocO _).allocO _).allocO _)
      · have HB := Lib.hid (Gm.setB_not (a := a) (b := b) (c := c) (d := d) (h := h) (fun k => h1 k.2.1))
        clear h0
        go_wp2_with fail
        refine bodyPost_ret (v := .tuple #[.agg #[.int .i64 0, .int .i64 0, .int .i64 0, .int .i64 0], .bool false]) ?_ rfl ⟨?_, ?_⟩
        · simp [results, Try.results26, go_sem]
        · rw [HB.out]
          simp only [Gm.yif_no rfl]
        · exact Kept.drew (((((((Kept.allocO (Kept.refl w) _).allocO _).allocO _).allocO _).allocO _).allocO _).allocO _)
    · have t0 := ne_yes h0
      have HB := Lib.hid (Gm.setB_not (a := a) (b := b) (c := c) (d := d) (h := h) (fun k => h0 k.1))
      clear h0
      go_wp2_with fail
      refine bodyPost_ret (v := .tuple #[.agg #[.int .i64 0, .int .i64 0, .int .i64 0, .int .i64 0], .bool false]) ?_ rfl ⟨?_, ?_⟩
      · simp [results, Try.results26, go_sem]
      · rw [HB.out]
        simp only [Gm.yif_no rfl]
      · exact Kept.drew (((((((Kept.allocO (Kept.refl w) _).allocO _).allocO _).allocO _).allocO _).allocO _).allocO _)

end Go.Proofs.Ytbckjejflbfjlaa
