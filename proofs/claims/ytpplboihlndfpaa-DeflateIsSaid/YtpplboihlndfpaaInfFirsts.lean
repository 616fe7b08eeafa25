/-
  The first codes of each length.
-/
import Derived.Test.YtpplboihlndfpaaInfArr
import Derived.Deep.LoopGhost
import Derived.Test.YtpplboihlndfpaaFixWalks
import Derived.Deep.QuietTactic
import Derived.BigQuiet
namespace Go.Proofs.Ytpplboihlndfpaa
open Go.RowKit Ix
set_option linter.unusedSimpArgs false
set_option linter.unusedVariables false

/-- The first codes as far as they are known. -/
def fstTo (L : List Nat) (j i : Nat) : Int := if i < j then (fst L i : Int) else 0
theorem fstTo_set (L : List Nat) (j : Nat) : (fun i => if i = j then ((fst L j : Nat) : Int) else fstTo L j i) = fstTo L (j + 1) := by
  funext i
  unfold fstTo
  by_cases h : i = j
  · subst h; rw [if_pos rfl, if_pos (by omega)]
  · rw [if_neg h]
    by_cases h2 : i < j
    · rw [if_pos h2, if_pos (by omega)]
    · rw [if_neg h2, if_neg (by omega)]
theorem fst_beh (L : List Nat) (j : Nat) (h : 1 ≤ j) : fst L j = 2 * beh L (j - 1) ∧ beh L j = fst L j + cnt L j := by
  obtain ⟨m, rfl⟩ : ∃ m, j = m + 1 := ⟨j - 1, by omega⟩
  exact ⟨fst_succ L m, beh_succ L m⟩
theorem beh_lt (L : List Nat) (j : Nat) (hL : L.length ≤ 65536) (hj : j ≤ 16) : beh L j ≤ 4294967296 := by
  have h := beh_le L j
  have h1 : 2 ^ j ≤ 2 ^ 16 := Nat.pow_le_pow_right (by decide) hj
  have h2 : L.length * (2 ^ j - 1) ≤ 65536 * 65536 := Nat.mul_le_mul hL (by omega)
  omega

theorem whole_int (L : List Nat) : ((beh L 15 : Int) == 32768) = whole L := by
  unfold whole
  rw [Bool.eq_iff_iff, beq_iff_eq, beq_iff_eq]; omega

set_option maxRecDepth 100000 in
theorem firsts_any (L : List Nat) (b : Nat) (w : World) (h : Arr w b 16 (fun n => (cnt L n : Int)) 83) (hL : L.length ≤ 65536) :
    Calls Try.prog 41 #[.pointer (some ⟨b, 0, none⟩)] w fun e w' => e = .returned (.tuple #[.agg (numCells 16 fun n => (fst L n : Int)), .bool (whole L)]) ∧ Kept w w' := by
  have HA := Lib.hid h
  have hb := h.lt
  have HL := Lib.hid hL
  clear h hL
  go_enter Try.func41, Try.ntmps41
  go_wp2_with fail
  go_loopg [5, 6] 15 (fun m v i wr => ∃ j : Nat, m = 16 - j ∧ 1 ≤ j ∧ j ≤ 16 ∧ v = .int .i64 (beh L (j - 1)) ∧ i = .int .i64 j ∧ Arr wr (w.heap.size + 1) 16 (fstTo L j) 83 ∧ Arr wr w.heap.size 16 (fun _ => 0) 83 ∧ Kept w wr)
  case atStart =>
    refine ⟨1, rfl, Nat.le_refl _, by decide, rfl, rfl, ?_, ?_, ((Kept.refl w).alloc _ _).alloc _ _⟩
    · refine Arr.fn (f := fun _ => 0) ?_ _ fun i hi => ?_
      · exact Blk.fresh' _ _ (by simp)
      unfold fstTo
      split
      · obtain rfl : i = 0 := by omega
        rfl
      · rfl
    · exact Blk.alloc (Blk.fresh w _ _) _
  case round =>
    obtain ⟨j, hm, h1, hj, rfl, rfl, hf, hr, hk⟩ := hrel
    obtain ⟨e1, e2⟩ := fst_beh L j h1
    have b1 := beh_lt L (j - 1) HL.out (by omega)
    have b2 := beh_lt L j HL.out (by omega)
    have b3 := cnt_le L j
    have b4 := HL.out
    have HF := Lib.hid hf
    have HR := Lib.hid hr
    have HK := Lib.hid hk
    have HC := Lib.hid (HA.out.kept hk)
    clear hf hr hk
    by_cases hlt : j ≤ 15
    · have HS := Lib.hid (fstTo_set L j)
      obtain ⟨x, hx⟩ : ∃ x, x = beh L (j - 1) := ⟨_, rfl⟩
      obtain ⟨z, hz⟩ : ∃ z, z = cnt L j := ⟨_, rfl⟩
      have c0 := HF.out.cell j (by omega)
      have c1 := HC.out.cell j (by omega)
      have c2 := HF.out.free
      have c3 := HF.out.cellSet j (by omega) (2 * (x : Int))
      have c4 := (HC.out.other (k := w.heap.size + 1) (o := j) (by omega) (.int .i64 (2 * (x : Int)))).cell j (by omega)
      rw [← hx] at e1 b1 ⊢
      rw [← hz] at b3
      simp only [← hz] at c1 c4 e2
      have HE1 := Lib.hid e1
      have HE2 := Lib.hid e2
      clear e1 e2 hx hz b2
      go_wp2_with fail
      go_quiet (fail)
      go_wp2_with fail
      go_roundg (16 - (j + 1))
      case measure => omega
      case rel =>
        refine ⟨j + 1, rfl, by omega, by omega, ?_, by go_num, ?_, HR.out.other (by omega) _, (HK.out.set (by omega) _).drewN _⟩
        · rw [show j + 1 - 1 = j by omega, HE2.out, HE1.out]; go_num
        · rw [← HS.out, HE1.out]; exact HF.out.set j _
    · obtain rfl : j = 16 := by omega
      have HFF := Lib.hid (HF.out.fn (fun i => (fst L i : Int)) fun i hi => if_pos hi)
      obtain ⟨f0, f1, f2, f3, f4, f5, f6, f7, f8, f9, f10, f11, f12, f13, f14, f15⟩ := HFF.out.cells16
      have r2 := HR.out.free
      obtain ⟨g0, g1, g2, g3, g4, g5, g6, g7, g8, g9, g10, g11, g12, g13, g14, g15⟩ := HR.out.cells16
      clear e1 e2
      go_wp2_with fail
      have HRR := Lib.hid (HR.out.all16 (fun i => (fst L i : Int)))
      obtain ⟨g0, g1, g2, g3, g4, g5, g6, g7, g8, g9, g10, g11, g12, g13, g14, g15⟩ := HRR.out.cells16
      refine bodyPost_ret (v := .tuple #[.agg (numCells 16 fun n => (fst L n : Int)), .bool (whole L)]) (by simp [results, Try.results41, go_sem, numCells16, g0, g1, g2, g3, g4, g5, g6, g7, g8, g9, g10, g11, g12, g13, g14, g15]; exact whole_int L) rfl ?_
      have KK := all16_kept HK.out (Nat.le_refl w.heap.size) (fun i => (fst L i : Int))
      exact ⟨rfl, KK⟩

end Go.Proofs.Ytpplboihlndfpaa
