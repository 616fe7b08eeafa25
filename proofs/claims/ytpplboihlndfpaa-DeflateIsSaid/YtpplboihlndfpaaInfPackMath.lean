/-
  Bits in bytes, each byte's lowest one first; the bits of letters.
-/
import Derived.Test.YtpplboihlndfpaaInfFixedMath
namespace Go.Proofs.Ytpplboihlndfpaa.Ix
set_option linter.unusedSimpArgs false
set_option linter.unusedVariables false

def numB (f : Nat → Nat) : Nat → Nat → Nat
  | 0, _ => 0
  | n + 1, t => numB f n t + f (t + n) * 2 ^ n
theorem numB_lt (f : Nat → Nat) (hf : ∀ i, f i < 2) (t : Nat) : ∀ n, numB f n t < 2 ^ n
  | 0 => by simp [numB]
  | n + 1 => by
    have h := numB_lt f hf t n
    have hb := hf (t + n)
    rw [numB, Nat.pow_succ]
    have : f (t + n) * 2 ^ n ≤ 1 * 2 ^ n := Nat.mul_le_mul_right _ (by omega)
    omega
theorem numB_bit (f : Nat → Nat) (hf : ∀ i, f i < 2) (t j : Nat) : ∀ n, j < n → numB f n t / 2 ^ j % 2 = f (t + j)
  | 0, h => by omega
  | n + 1, h => by
    rw [numB]
    by_cases e : j = n
    · subst e
      have h1 := numB_lt f hf t j
      have h2 := hf (t + j)
      rw [Nat.add_mul_div_right _ _ (Nat.two_pow_pos j), Nat.div_eq_of_lt h1]
      omega
    · have ih := numB_bit f hf t j n (by omega)
      obtain ⟨d, hd⟩ : ∃ d, n = j + (d + 1) := ⟨n - j - 1, by omega⟩
      have h2 : f (t + n) * 2 ^ n = (f (t + n) * 2 ^ d * 2) * 2 ^ j := by
        rw [hd, Nat.pow_add, Nat.pow_succ]
        simp only [Nat.mul_assoc, Nat.mul_comm, Nat.mul_left_comm]
      rw [h2, Nat.add_mul_div_right _ _ (Nat.two_pow_pos j)]
      omega
def pk (f : Nat → Nat) (i : Nat) : List UInt8 := (List.range ((i + 7) / 8)).map fun m => UInt8.ofNat (numB f (min 8 (i - 8 * m)) (8 * m))
theorem pk_len (f : Nat → Nat) (i : Nat) : (pk f i).length = (i + 7) / 8 := by simp [pk]
theorem pk_getD (f : Nat → Nat) (hf : ∀ i, f i < 2) (i m : Nat) (h : m < (i + 7) / 8) : ((pk f i).getD m 0).toNat = numB f (min 8 (i - 8 * m)) (8 * m) := by
  have h1 := numB_lt f hf (8 * m) (min 8 (i - 8 * m))
  have h2 : 2 ^ min 8 (i - 8 * m) ≤ 2 ^ 8 := Nat.pow_le_pow_right (by decide) (Nat.min_le_left _ _)
  unfold pk
  simp only [List.getD, List.getElem?_map, List.getElem?_range h, Option.map_some, Option.getD_some, UInt8.toNat_ofNat']
  exact Nat.mod_eq_of_lt (by omega)
theorem pk_bit (f : Nat → Nat) (hf : ∀ i, f i < 2) (i t : Nat) (h : t < i) : bitAt (pk f i) t = f t := by
  unfold bitAt
  rw [pk_getD f hf i (t / 8) (by omega), numB_bit f hf (8 * (t / 8)) (t % 8) _ (by omega)]
  congr 1; omega
/-- Ahead of a bit: its byte is there. -/
def pkA (f : Nat → Nat) (i : Nat) : List UInt8 := if i % 8 = 0 then pk f i ++ [0] else pk f i
theorem pkA_len (f : Nat → Nat) (i : Nat) : (pkA f i).length = i / 8 + 1 := by
  unfold pkA
  split
  · rw [List.length_append, pk_len]; simp; omega
  · rw [pk_len]; omega
theorem pkA_at (f : Nat → Nat) (hf : ∀ i, f i < 2) (i : Nat) : ((pkA f i).getD (i / 8) 0).toNat = numB f (i % 8) (8 * (i / 8)) := by
  unfold pkA
  split
  · rename_i h
    have e : (pk f i).length = i / 8 := by rw [pk_len]; omega
    rw [h]
    simp [List.getD, List.getElem?_append_right, e, numB]
  · rw [pk_getD f hf i _ (by omega)]
    congr 1; omega
theorem pk_step (f : Nat → Nat) (hf : ∀ i, f i < 2) (i : Nat) : (pkA f i).set (i / 8) (UInt8.ofNat (numB f (i % 8) (8 * (i / 8)) + f i * 2 ^ (i % 8))) = pk f (i + 1) := by
  apply List.ext_getElem?
  intro m
  have hl := pkA_len f i
  by_cases hm : m = i / 8
  · subst hm
    rw [List.getElem?_set_self (by omega)]
    unfold pk
    rw [List.getElem?_map, List.getElem?_range (by omega), Option.map_some]
    congr 2
    rw [show min 8 (i + 1 - 8 * (i / 8)) = i % 8 + 1 by omega, numB]
    rw [show 8 * (i / 8) + i % 8 = i by omega]
  · rw [List.getElem?_set_ne (by omega)]
    by_cases h : m < i / 8
    · have e1 : (pkA f i)[m]? = (pk f i)[m]? := by
        unfold pkA
        split
        · rw [List.getElem?_append_left (by rw [pk_len]; omega)]
        · rfl
      rw [e1]
      unfold pk
      rw [List.getElem?_map, List.getElem?_map, List.getElem?_range (by omega), List.getElem?_range (by omega), Option.map_some, Option.map_some]
      congr 3
      omega
    · rw [List.getElem?_eq_none (by omega), List.getElem?_eq_none (by rw [pk_len]; omega)]

/-- The bits of letters, with what stands ahead of them and behind. -/
def bitF (S : List UInt8) (t : Nat) : Nat :=
  if t < 2 then 1 else if t = 2 then 0 else if t - 3 < 8 * S.length then ((S.getD ((t - 3) / 8) 0).toNat + 48) / 2 ^ (7 - (t - 3) % 8) % 2 else 0
theorem bitF_lt (S : List UInt8) (t : Nat) : bitF S t < 2 := by
  unfold bitF
  split
  · omega
  · split
    · omega
    · split
      · exact Nat.mod_lt _ (by decide)
      · omega
theorem bitF_letter (S : List UInt8) (i q : Nat) (h : i < S.length) (hq : q < 8) : bitF S (3 + 8 * i + q) = (S[i].toNat + 48) / 2 ^ (7 - q) % 2 := by
  unfold bitF
  rw [if_neg (by omega), if_neg (by omega), if_pos (by omega), show (3 + 8 * i + q - 3) / 8 = i by omega, show (3 + 8 * i + q - 3) % 8 = q by omega]
  simp [List.getD, h]
theorem bitF_end (S : List UInt8) (i : Nat) (h : 3 + 8 * S.length ≤ i) : bitF S i = 0 := by
  unfold bitF
  rw [if_neg (by omega), if_neg (by omega), if_neg (by omega)]
theorem letBits_of (S B : List UInt8) (hb : ∀ t, t < 10 + 8 * S.length → bitAt B t = bitF S t) : ∀ (R : List UInt8) (k : Nat), k ≤ S.length → S.drop k = R → letBits B (3 + 8 * k) R
  | [], k, hk, h => by
    have hl : S.length ≤ k := by
      have := congrArg List.length h
      rw [List.length_drop] at this
      simp at this; omega
    intro i hi
    rw [hb _ (by omega), bitF_end S _ (by omega)]
  | x :: r, k, hk, h => by
    have hl : k < S.length := by
      have := congrArg List.length h
      rw [List.length_drop] at this
      simp at this; omega
    rw [List.drop_eq_getElem_cons hl] at h
    injection h with h1 h2
    refine ⟨fun i hi => ?_, ?_⟩
    · rw [hb _ (by omega), bitF_letter S k i hl hi, h1]
    · have := letBits_of S B hb r (k + 1) hl h2
      rwa [show 3 + 8 * (k + 1) = 3 + 8 * k + 8 by omega] at this
theorem raw_packed (S : List UInt8) (hx : ∀ x ∈ S, 97 ≤ x.toNat ∧ x.toNat ≤ 122) (hs : S.length ≤ 300) : rawV (pk (bitF S) (10 + 8 * S.length)) = .ok (S, S.length + 2) := by
  have hl : (pk (bitF S) (10 + 8 * S.length)).length = S.length + 2 := by rw [pk_len]; omega
  have hb : ∀ t, t < 10 + 8 * S.length → bitAt (pk (bitF S) (10 + 8 * S.length)) t = bitF S t := fun t h => pk_bit _ (bitF_lt S) _ t h
  have z := raw_letters _ S (by rw [hb 0 (by omega)]; rfl) (by rw [hb 1 (by omega)]; rfl) (by rw [hb 2 (by omega)]; rfl) (letBits_of S _ hb S 0 (Nat.zero_le _) rfl) hx hl hs
  rw [hl] at z; exact z
theorem bits_step (f : Nat → Nat) (t : Nat) : (List.range (t + 1)).map f = (List.range t).map f ++ [f t] := by
  rw [List.range_succ, List.map_append]; rfl
theorem bits_end (S : List UInt8) : (List.range (3 + 8 * S.length)).map (bitF S) ++ [0, 0, 0, 0, 0, 0, 0] = (List.range (10 + 8 * S.length)).map (bitF S) := by
  have e := fun i (h : i < 7) => bitF_end S (3 + 8 * S.length + i) (by omega)
  rw [show 10 + 8 * S.length = 3 + 8 * S.length + 1 + 1 + 1 + 1 + 1 + 1 + 1 by omega]
  iterate 7 rw [bits_step]
  have e0 := e 0 (by decide)
  have e1 := e 1 (by decide)
  have e2 := e 2 (by decide)
  have e3 := e 3 (by decide)
  have e4 := e 4 (by decide)
  have e5 := e 5 (by decide)
  have e6 := e 6 (by decide)
  simp only [Nat.add_zero] at e0
  simp only [Nat.add_assoc, Nat.reduceAdd] at *
  rw [e0, e1, e2, e3, e4, e5, e6]
  simp

end Go.Proofs.Ytpplboihlndfpaa.Ix
