/-
  Plain numbers behind the reference's Place.
-/
import Derived.Test.YtbckjejflbfjlaaGeomRefMatMath
namespace Go.Proofs.Ytbckjejflbfjlaa
open Fx

theorem Gm.pl_raw {z a b c d p q r s : Int} (h0 : z = 0) (h1 : Gm.sizE (min a c) (min b d) (max a c) (max b d) = 0) (h2 : Gm.sizE (min p r) (min q s) (max p r) (max q s) = 0) : (Gm.fst (Gm.fst (Gm.fst (Gm.fst (Gm.fst (Gm.fst 0 (Fx.divE (Gm.sizW (min p r) (min q s) (max p r) (max q s)) (Gm.sizW (min a c) (min b d) (max a c) (max b d)))) (Fx.divE (Gm.sizH (min p r) (min q s) (max p r) (max q s)) (Gm.sizH (min a c) (min b d) (max a c) (max b d)))) (Fx.mulE a (Fx.divV (Gm.sizW (min p r) (min q s) (max p r) (max q s)) (Gm.sizW (min a c) (min b d) (max a c) (max b d))))) (Fx.subE (min p r) (Fx.mulV a (Fx.divV (Gm.sizW (min p r) (min q s) (max p r) (max q s)) (Gm.sizW (min a c) (min b d) (max a c) (max b d)))))) (Fx.mulE b (Fx.divV (Gm.sizH (min p r) (min q s) (max p r) (max q s)) (Gm.sizH (min a c) (min b d) (max a c) (max b d))))) (Fx.subE (min q s) (Fx.mulV b (Fx.divV (Gm.sizH (min p r) (min q s) (max p r) (max q s)) (Gm.sizH (min a c) (min b d) (max a c) (max b d)))))) = Gm.plE z a b c d p q r s := by
  have n0 : min (min p r) (max p r) = min p r := by omega
  have n1 : min (min q s) (max q s) = min q s := by omega
  have n2 : max (min p r) (max p r) = max p r := by omega
  have n3 : max (min q s) (max q s) = max q s := by omega
  have e : Gm.scE a b c d (min p r) (min q s) (max p r) (max q s) = Gm.fst (Fx.divE (Gm.sizW (min p r) (min q s) (max p r) (max q s)) (Gm.sizW (min a c) (min b d) (max a c) (max b d))) (Fx.divE (Gm.sizH (min p r) (min q s) (max p r) (max q s)) (Gm.sizH (min a c) (min b d) (max a c) (max b d))) := by
    unfold Gm.scE Gm.fst4
    rw [n0, n1, n2, n3, h1, Gm.fst_zero, h2, Gm.fst_zero]
  unfold Gm.plE Gm.fst4
  rw [h0, Gm.fst_zero, e, Gm.fst_zero]
  by_cases k : Gm.fst (Fx.divE (Gm.sizW (min p r) (min q s) (max p r) (max q s)) (Gm.sizW (min a c) (min b d) (max a c) (max b d))) (Fx.divE (Gm.sizH (min p r) (min q s) (max p r) (max q s)) (Gm.sizH (min a c) (min b d) (max a c) (max b d))) = 0
  · have kx : Gm.scX a b c d (min p r) (min q s) (max p r) (max q s) = (Fx.divV (Gm.sizW (min p r) (min q s) (max p r) (max q s)) (Gm.sizW (min a c) (min b d) (max a c) (max b d))) := (Gm.zif_ok (by rw [e]; exact k) _).trans (by rw [n0, n1, n2, n3])
    have ky : Gm.scY a b c d (min p r) (min q s) (max p r) (max q s) = (Fx.divV (Gm.sizH (min p r) (min q s) (max p r) (max q s)) (Gm.sizH (min a c) (min b d) (max a c) (max b d))) := (Gm.zif_ok (by rw [e]; exact k) _).trans (by rw [n0, n1, n2, n3])
    rw [kx, ky]
    unfold Gm.shiE
    rw [k, Gm.fst_zero, Gm.fst_zero, Gm.fst_fst]
  · rw [Gm.fst_fst, Gm.fst_fst, Gm.fst_fst, Gm.fst_ne k, Gm.fst_ne k]
theorem Gm.pl_zero {z a b c d p q r s : Int} (h : Gm.plE z a b c d p q r s = 0) :
    Gm.plX z a b c d p q r s = (Fx.divV (Gm.sizW (min p r) (min q s) (max p r) (max q s)) (Gm.sizW (min a c) (min b d) (max a c) (max b d))) ∧ Gm.plY z a b c d p q r s = (Fx.divV (Gm.sizH (min p r) (min q s) (max p r) (max q s)) (Gm.sizH (min a c) (min b d) (max a c) (max b d))) ∧ Gm.plS z a b c d p q r s = Fx.subV (min p r) (Fx.mulV a (Fx.divV (Gm.sizW (min p r) (min q s) (max p r) (max q s)) (Gm.sizW (min a c) (min b d) (max a c) (max b d)))) ∧ Gm.plT z a b c d p q r s = Fx.subV (min q s) (Fx.mulV b (Fx.divV (Gm.sizH (min p r) (min q s) (max p r) (max q s)) (Gm.sizH (min a c) (min b d) (max a c) (max b d)))) ∧ Gm.plE z a b c d p q r s = 0 := by
  have n0 : min (min p r) (max p r) = min p r := by omega
  have n1 : min (min q s) (max q s) = min q s := by omega
  have n2 : max (min p r) (max p r) = max p r := by omega
  have n3 : max (min q s) (max q s) = max q s := by omega
  obtain ⟨x, y, u, v, o⟩ := Gm.pl_ok h
  unfold Gm.plE Gm.fst4 at h
  rw [Gm.fst_eq_zero, Gm.fst_eq_zero, Gm.fst_eq_zero] at h
  obtain ⟨_, k1, k2, k3⟩ := h
  have kx : Gm.scX a b c d (min p r) (min q s) (max p r) (max q s) = (Fx.divV (Gm.sizW (min p r) (min q s) (max p r) (max q s)) (Gm.sizW (min a c) (min b d) (max a c) (max b d))) := (Gm.zif_ok k1 _).trans (by rw [n0, n1, n2, n3])
  have ky : Gm.scY a b c d (min p r) (min q s) (max p r) (max q s) = (Fx.divV (Gm.sizH (min p r) (min q s) (max p r) (max q s)) (Gm.sizH (min a c) (min b d) (max a c) (max b d))) := (Gm.zif_ok k1 _).trans (by rw [n0, n1, n2, n3])
  rw [kx] at x u k2
  rw [ky] at y v k3
  exact ⟨x, y, u.trans (if_pos k2), v.trans (if_pos k3), o⟩

end Go.Proofs.Ytbckjejflbfjlaa
