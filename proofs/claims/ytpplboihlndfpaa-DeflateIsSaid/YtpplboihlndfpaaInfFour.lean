/-
  The lengths of the kind 1, as slices.Repeat and slices.Concat make them.
-/
import Derived.Test.YtpplboihlndfpaaInfRepeat
import Derived.Test.YtpplboihlndfpaaInfConcat
namespace Go.Proofs.Ytpplboihlndfpaa
open Go.RowKit Ix
set_option linter.unusedSimpArgs false
set_option linter.unusedVariables false

theorem Repeat_lit (v : Int) (n : Nat) (z : Int) (hz : z = (n : Int)) (W : World) (k : Nat) (hk : k = W.heap.size) (h1 : 1 ≤ n) (hn : n ≤ 1048576) :
    Calls Try.prog 33 #[.slice (some ⟨k, 0, none⟩) 1 1, .int .i64 z] (W.alloc (.cells #[.int .i64 v] 3)) fun e w' => ∃ g, e = .returned (.slice (some ⟨g, 0, none⟩) n n) ∧ W.heap.size < g ∧ Arr w' g n (fun _ => v) 3 ∧ Kept W w' := by
  subst hz hk
  have hb := Blk.fresh W #[.int .i64 v] 3
  refine (Repeat_one v n W.heap.size _ (by rw [hb.cell]; rfl) hb.lt h1 hn).mono ?_
  rintro e w' ⟨g, rfl, hg, ha, hk⟩
  exact ⟨g, rfl, by simp at hg; omega, ha, ((Kept.refl W).allocO _).trans hk⟩

def intsOf (l : List Nat) : List Int := l.map Int.ofNat
theorem intsOf_nat (l : List Nat) : (intsOf l).map Int.toNat = l := by
  unfold intsOf
  rw [List.map_map]
  have : (Int.toNat ∘ Int.ofNat) = id := by funext x; rfl
  rw [this, List.map_id]
/-- Four such slices. -/
theorem Concat4 (g1 g2 g3 g4 : Nat) (W : World) (k : Nat) (hk : k = W.heap.size) (h1 : Arr W g1 144 (fun _ => 8) 3) (h2 : Arr W g2 112 (fun _ => 9) 3) (h3 : Arr W g3 24 (fun _ => 7) 3) (h4 : Arr W g4 8 (fun _ => 8) 3) :
    Calls Try.prog 32 #[.slice (some ⟨k, 0, none⟩) 4 4] (W.alloc (.cells #[.slice (some ⟨g1, 0, none⟩) 144 144, .slice (some ⟨g2, 0, none⟩) 112 112, .slice (some ⟨g3, 0, none⟩) 24 24, .slice (some ⟨g4, 0, none⟩) 8 8] 55)) fun e w' => ∃ g cap, e = .returned (.slice (some ⟨g, 0, none⟩) 288 cap) ∧ IntsR w' (some ⟨g, 0, none⟩) (intsOf fixS) ∧ Kept W w' := by
  subst hk
  have hb := Blk.fresh W #[.slice (some ⟨g1, 0, none⟩) 144 144, .slice (some ⟨g2, 0, none⟩) 112 112, .slice (some ⟨g3, 0, none⟩) 24 24, .slice (some ⟨g4, 0, none⟩) 8 8] 55
  have hka := (Kept.refl W).allocO (.cells #[.slice (some ⟨g1, 0, none⟩) 144 144, .slice (some ⟨g2, 0, none⟩) 112 112, .slice (some ⟨g3, 0, none⟩) 24 24, .slice (some ⟨g4, 0, none⟩) 8 8] 55)
  refine (Concat_any 4 (fun i => [g1, g2, g3, g4].getD i 0) (fun i => [144, 112, 24, 8].getD i 0) (fun i => [8, 9, 7, 8].getD i 0) W.heap.size _ (by decide) hb.lt ?_ (by decide) ?_ (by decide) ?_).mono ?_
  · intro i hi
    rcases (show i = 0 ∨ i = 1 ∨ i = 2 ∨ i = 3 by omega) with rfl | rfl | rfl | rfl <;> (rw [hb.cell]; rfl)
  · intro i hi
    rcases (show i = 0 ∨ i = 1 ∨ i = 2 ∨ i = 3 by omega) with rfl | rfl | rfl | rfl <;> decide
  · intro i hi
    rcases (show i = 0 ∨ i = 1 ∨ i = 2 ∨ i = 3 by omega) with rfl | rfl | rfl | rfl
    · exact h1.kept hka
    · exact h2.kept hka
    · exact h3.kept hka
    · exact h4.kept hka
  · rintro e w' ⟨g, cap, rfl, ho, hk⟩
    refine ⟨g, cap, rfl, fun i hi => ?_, hka.trans hk⟩
    have hl : (intsOf fixS).length = 288 := by kernel_rfl
    have hc : catV (fun i => [144, 112, 24, 8].getD i 0) (fun i => [8, 9, 7, 8].getD i 0) 4 = (intsOf fixS).map (Value.int .i64) := by
      kernel_rfl
    have c := World.ownsRow.cellAt ho i (by rw [show sumN (fun i => [144, 112, 24, 8].getD i 0) 4 = 288 by rfl]; omega)
    rw [hc] at c
    refine ⟨g, 0, rfl, (World.ownsRow.lt ho g rfl).2, ?_⟩
    rw [Nat.zero_add, c]
    simp [hi]

end Go.Proofs.Ytpplboihlndfpaa
