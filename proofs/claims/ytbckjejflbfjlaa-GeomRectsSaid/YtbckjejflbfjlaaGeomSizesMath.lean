/-
  Plain numbers behind the law GeomSizes.
-/
import Derived.Test.YtbckjejflbfjlaaGeomPlacesMath
import Derived.Test.YtbckjejflbfjlaaGeomRects
namespace Go.Proofs.Ytbckjejflbfjlaa.Gm
open Fx

theorem chk_val {a : Int} (h : chkE a = 0) : chkV a = a ∧ saneB a = true := by
  unfold chkE at h
  split at h
  · rename_i k; exact ⟨if_pos k, k⟩
  · cases h
theorem add_val {a b : Int} (h : addE a b = 0) : addV a b = a + b ∧ saneB (a + b) = true ∧ saneB a = true ∧ saneB b = true := by
  unfold addE at h
  split at h
  · rename_i k
    have q := chk_val h
    exact ⟨by unfold addV; rw [if_pos k]; exact q.1, q.2, k.1, k.2⟩
  · cases h
theorem sub_val {a b : Int} (h : subE a b = 0) : subV a b = a - b ∧ saneB (a - b) = true ∧ saneB a = true ∧ saneB b = true := by
  unfold subE at h
  split at h
  · rename_i k
    have q := chk_val h
    exact ⟨by unfold subV; rw [if_pos k]; exact q.1, q.2, k.1, k.2⟩
  · cases h
theorem siz_val {a b c d : Int} (h : sizE a b c d = 0) : sizW a b c d = c - a ∧ sizH a b c d = d - b ∧ saneB (c - a) = true ∧ saneB (d - b) = true := by
  obtain ⟨p, q⟩ := fst_eq_zero.1 h
  have x := sub_val p
  have y := sub_val q
  have z := siz_3 p q
  exact ⟨z.1.trans x.1, z.2.1.trans y.1, x.2.1, y.2.1⟩
theorem set_val {a b c d h : Int} (k : setB a b c d h = true) : saneB h = true ∧ addV (min a c) h = min a c + h ∧ addV (min b d) h = min b d + h ∧ subV (max a c) h = max a c - h ∧ subV (max b d) h = max b d - h ∧ min a c + h < max a c - h ∧ min b d + h < max b d - h := by
  unfold setB at k
  simp only [Bool.and_eq_true, decide_eq_true_eq] at k
  obtain ⟨k0, k1, k2, k3, k4⟩ := k
  have x0 := add_val k0
  have x1 := add_val k1
  have x2 := sub_val k2
  have x3 := sub_val k3
  rw [x0.1, x1.1, x2.1, x3.1] at k4
  obtain ⟨y, z⟩ := ins_iff.1 k4
  exact ⟨x0.2.2.2, x0.1, x1.1, x2.1, x3.1, y, z⟩

end Go.Proofs.Ytbckjejflbfjlaa.Gm
