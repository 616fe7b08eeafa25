/-
  What tokens are: matches that can't be longer; a byte again and again.
-/
import Derived.Test.YtpplboihlndfpaaDefMath
namespace Go.Proofs.Ytpplboihlndfpaa.Dx
set_option linter.unusedSimpArgs false
set_option linter.unusedVariables false

/-- What a match is, at a place. -/
theorem long_match {b : List UInt8} {i : Nat} (h : (long b i).1 ≠ 0) : 3 ≤ (long b i).1 ∧ (long b i).1 ≤ 258 ∧ 1 ≤ (long b i).2 ∧ (long b i).2 ≤ i ∧ i + (long b i).1 ≤ b.length ∧
    (∀ k, k < (long b i).1 → at' b (i + k) = at' b (i + k - (long b i).2)) ∧ ((long b i).1 < 258 → i + (long b i).1 < b.length → at' b (i + (long b i).1) ≠ at' b (i + (long b i).1 - (long b i).2)) := by
  obtain ⟨a1, a2, a3, a4, a5, a6, a7⟩ := (long_best b i).some h
  have hM := M_le b i (i - (long b i).2)
  have ht := top_le b i
  refine ⟨a1, by omega, by omega, a2, by omega, fun k hk => ?_, fun h1 h2 => ?_⟩
  · have := mat_eq b i (i - (long b i).2) (top b i) k (by unfold M at a6; omega)
    rw [show i + k - (long b i).2 = i - (long b i).2 + k by omega]; exact this
  · have hlt : (long b i).1 < top b i := by unfold top; omega
    have := mat_ne b i (i - (long b i).2) (top b i) (by unfold M at a6; omega)
    unfold M at a6
    rw [a6] at this
    rw [show i + (long b i).1 - (long b i).2 = i - (long b i).2 + (long b i).1 by omega]; exact this

theorem at_rep (c : UInt8) (k i : Nat) (h : i < k) : at' (List.replicate k c) i = c := by simp [at', List.getD, List.getElem?_replicate, h]
theorem M_rep (c : UInt8) (k i j : Nat) (hj : j < i) (hi : i < k) : M (List.replicate k c) i j = min 258 (k - i) := by
  have hl : (List.replicate k c).length = k := List.length_replicate
  have e : top (List.replicate k c) i = min 258 (k - i) := by unfold top; rw [hl]
  unfold M
  rw [e]
  apply mat_all
  intro t ht
  rw [at_rep c k _ (by omega), at_rep c k _ (by omega)]
theorem long_rep0 (b : List UInt8) : long b 0 = (0, 0) := rfl
theorem long_rep (c : UInt8) (k i : Nat) (h0 : 0 < i) (hi : i < k) : long (List.replicate k c) i = if 3 ≤ k - i then (min 258 (k - i), 1) else (0, 0) := by
  by_cases c3 : 3 ≤ k - i
  · rw [if_pos c3]
    apply long_is
    refine ⟨fun j h1 h2 h3 => .inr ?_, fun e => by omega, fun _ => ⟨by omega, by omega, by omega, by omega, by omega, ?_, fun j h1 h2 => by omega⟩⟩
    · rw [M_rep c k i j h2 hi]; exact Nat.le_refl _
    · exact M_rep c k i (i - 1) (by omega) hi
  · rw [if_neg c3]
    apply long_is
    refine ⟨fun j h1 h2 h3 => .inl ?_, fun _ => rfl, fun e => absurd rfl e⟩
    rw [M_rep c k i j h2 hi]; omega

end Go.Proofs.Ytpplboihlndfpaa.Dx
