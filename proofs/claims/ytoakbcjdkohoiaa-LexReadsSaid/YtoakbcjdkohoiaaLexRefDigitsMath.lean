/-
  Half bytes in a row, two by two: what the document's digits of layer 3 keep.
-/
import Derived.Test.YtoakbcjdkohoiaaLexMath
namespace Go.Proofs.Ytoakbcjdkohoiaa.Lx

/-- Whole bytes out of half ones. -/
def packA : List UInt8 → List UInt8
  | x :: y :: r => (x <<< 4 ||| y) :: packA r
  | _ => []
/-- The half byte left. -/
def packH : List UInt8 → Option UInt8
  | _ :: _ :: r => packH r
  | [x] => some (x <<< 4)
  | [] => none

theorem pack_one (x : UInt8) : ∀ l : List UInt8, packH l = none → packA (l ++ [x]) = packA l ∧ packH (l ++ [x]) = some (x <<< 4)
  | [], _ => ⟨rfl, rfl⟩
  | [_], h => by simp [packH] at h
  | a :: b :: r, h => by
    have := pack_one x r (by simpa [packH] using h)
    simp only [List.cons_append, packA, packH, this.1, this.2, and_self]
theorem pack_two (x u : UInt8) : ∀ l : List UInt8, packH l = some u → packA (l ++ [x]) = packA l ++ [u ||| x] ∧ packH (l ++ [x]) = none
  | [], h => by simp [packH] at h
  | [a], h => by
    have : a <<< 4 = u := by simpa [packH] using h
    simp [packA, packH, this]
  | a :: b :: r, h => by
    have := pack_two x u r (by simpa [packH] using h)
    simp only [List.cons_append, packA, packH, this.1, this.2, and_self]
theorem pack_even : ∀ l : List UInt8, (packH l = none ↔ l.length % 2 = 0) ∧ (packA l).length = l.length / 2
  | [] => ⟨by simp [packH], rfl⟩
  | [_] => ⟨by simp [packH], by simp [packA]⟩
  | a :: b :: r => by
    have := pack_even r
    refine ⟨?_, ?_⟩
    · simp only [packH, this.1, List.length_cons]; omega
    · simp only [packA, this.2, List.length_cons]; omega
theorem pack_step {b : UInt8} (e : isHex b = true) (l r : List UInt8) (k : Nat) : hexGo (packA l) (packH l) (b :: r) k = hexGo (packA (l ++ [hexV b])) (packH (l ++ [hexV b])) r (k + 1) := by
  cases h : packH l with
  | none =>
    obtain ⟨h1, h2⟩ := pack_one (hexV b) l h
    rw [hex_first e, h1, h2]
  | some u =>
    obtain ⟨h1, h2⟩ := pack_two (hexV b) u l h
    rw [hex_second e, h1, h2]
theorem pack_done {b : UInt8} (e : b = 62) (l r : List UInt8) (k : Nat) (L : List UInt8) (hL : L = if l.length % 2 = 1 then l ++ [0] else l) : hexGo (packA l) (packH l) (b :: r) k = (0, packA L, k + 1) := by
  rw [hex_done e]
  cases h : packH l with
  | none =>
    have := (pack_even l).1.1 h
    rw [if_neg (by omega)] at hL
    rw [hL]; simp
  | some u =>
    have hn : ¬ l.length % 2 = 0 := fun h0 => by rw [(pack_even l).1.2 h0] at h; cases h
    rw [if_pos (by omega)] at hL
    rw [hL, (pack_two 0 u l h).1]; simp
theorem pack_at : ∀ (l : List UInt8) (m : Nat) (h : 2 * m + 1 < l.length), ∃ h' : m < (packA l).length, (packA l)[m] = l[2 * m] <<< 4 ||| l[2 * m + 1]
  | [], m, h => by simp at h
  | [_], m, h => by simp at h
  | a :: b :: r, 0, _ => ⟨by simp [packA], rfl⟩
  | a :: b :: r, m + 1, h => by
    obtain ⟨h', e⟩ := pack_at r m (by simp at h; omega)
    refine ⟨by simp [packA]; exact h', ?_⟩
    simp only [packA, List.getElem_cons_succ, e, show 2 * (m + 1) = 2 * m + 1 + 1 by omega]

end Go.Proofs.Ytoakbcjdkohoiaa.Lx
