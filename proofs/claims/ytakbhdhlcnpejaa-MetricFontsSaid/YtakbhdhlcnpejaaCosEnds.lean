/-
  Where an object ends: behind its first token, within the text.
-/
import Derived.Test.YtakbhdhlcnpejaaMathS
namespace Go.Proofs.Ytakbhdhlcnpejaa.Cx
open Lx

theorem next_le (l : List UInt8) (a : Nat) (h : (nextV l a).1 = 0) : a ≤ (nextV l a).2.to ∧ (nextV l a).2.to ≤ l.length := by
  have := next_bd l a h
  omega
theorem number_to (l : List UInt8) (t : Tok) (ht : t.to ≤ l.length) : t.to ≤ (numberV l t).2 ∧ (numberV l t).2 ≤ l.length := by
  unfold numberV
  split
  · split
    · next h2 =>
      rw [tokOf_next] at h2
      split
      · next h3 =>
        rw [tokOf_next] at h3 ⊢
        have e1 : (nextV l (t.to : Int)).1 = 0 := by
          by_cases e : (nextV l (t.to : Int)).1 = 0
          · exact e
          · rw [next_zero_of l _ e] at h2; exact absurd h2 (by decide)
        have e2 : (nextV l ((nextV l (t.to : Int)).2.to : Int)).1 = 0 := by
          by_cases e : (nextV l ((nextV l (t.to : Int)).2.to : Int)).1 = 0
          · exact e
          · rw [tokOf_next, next_zero_of l _ e] at h3; exact absurd h3 (by simp [isW, zero])
        have b1 := next_le l t.to e1
        have b2 := next_le l _ e2
        rw [tokOf_next]
        exact ⟨Nat.le_trans b1.1 b2.1, b2.2⟩
      · exact ⟨Nat.le_refl _, ht⟩
    · exact ⟨Nat.le_refl _, ht⟩
  · exact ⟨Nat.le_refl _, ht⟩

theorem ends_all (l : List UInt8) : ∀ F : Nat,
    (∀ dep t, t.to ≤ l.length → (objOf F l dep t).1 = 0 → t.to ≤ (objOf F l dep t).2.2 ∧ (objOf F l dep t).2.2 ≤ l.length) ∧
    (∀ dep acc k, k ≤ l.length → (upO F l dep acc k).1 = 0 → k ≤ (upO F l dep acc k).2.2 ∧ (upO F l dep acc k).2.2 ≤ l.length) ∧
    (∀ dep acc k, k ≤ l.length → (upE F l dep acc k).1 = 0 → k ≤ (upE F l dep acc k).2.2 ∧ (upE F l dep acc k).2.2 ≤ l.length) ∧
    (∀ dep t, t.to ≤ l.length → (entOf F l dep t).1 = 0 → t.to ≤ (entOf F l dep t).2.2 ∧ (entOf F l dep t).2.2 ≤ l.length) := by
  intro F
  induction F with
  | zero =>
    refine ⟨fun dep t _ h => ?_, fun dep acc k _ h => ?_, fun dep acc k _ h => ?_, fun dep t _ h => ?_⟩
    · rw [objOf] at h; exact absurd h (by simp)
    · rw [upO] at h; exact absurd h (by simp)
    · rw [upE] at h; exact absurd h (by simp)
    · rw [entOf] at h; exact absurd h (by simp)
  | succ F ih =>
    obtain ⟨i1, i2, i3, i4⟩ := ih
    refine ⟨fun dep t ht h => ?_, fun dep acc k hk h => ?_, fun dep acc k hk h => ?_, fun dep t ht h => ?_⟩
    · rw [objOf] at h ⊢
      split
      · next h0 => rw [if_pos h0] at h; simp at h
      · next h0 =>
        rw [if_neg h0] at h
        split
        · exact number_to l t ht
        · next h1 =>
          rw [if_neg h1] at h
          split
          · exact ⟨Nat.le_refl _, ht⟩
          · next h2 =>
            rw [if_neg h2] at h
            split
            · exact ⟨Nat.le_refl _, ht⟩
            · next h3 =>
              rw [if_neg h3] at h
              split
              · next h8 =>
                rw [if_pos h8] at h
                simp only [] at h ⊢
                rw [if_pos h]; exact ⟨Nat.le_refl _, ht⟩
              · next h8 =>
                rw [if_neg h8] at h
                split
                · next h4 =>
                  rw [if_pos h4] at h
                  split
                  · next hd => rw [if_pos hd] at h; simp at h
                  · next hd =>
                    rw [if_neg hd] at h
                    split
                    · next hu => exact i2 _ _ _ ht hu
                    · next hu => rw [if_neg hu] at h; exact absurd h hu
                · next h4 =>
                  rw [if_neg h4] at h
                  split
                  · next h6 =>
                    rw [if_pos h6] at h
                    split
                    · next hd => rw [if_pos hd] at h; simp at h
                    · next hd =>
                      rw [if_neg hd] at h
                      split
                      · next hu => exact i3 _ _ _ ht hu
                      · next hu => rw [if_neg hu] at h; exact absurd h hu
                  · next h6 => rw [if_neg h6] at h; simp at h
    · rw [upO] at h ⊢
      split
      · next he => rw [if_pos he] at h; exact absurd h he
      · next he =>
        rw [if_neg he] at h
        have hb := next_le l k (by simpa using he)
        split
        · exact hb
        · next h5 =>
          rw [if_neg h5] at h
          split
          · next h0 => rw [if_pos h0] at h; simp at h
          · next h0 =>
            rw [if_neg h0] at h
            split
            · next hl => rw [if_pos hl] at h; simp at h
            · next hl =>
              rw [if_neg hl] at h
              split
              · next ho =>
                rw [if_pos ho] at h
                have b1 := i1 dep _ hb.2 ho
                have b2 := i2 dep _ _ b1.2 h
                omega
              · next ho => rw [if_neg ho] at h; exact absurd h ho
    · rw [upE] at h ⊢
      split
      · next he => rw [if_pos he] at h; exact absurd h he
      · next he =>
        rw [if_neg he] at h
        have hb := next_le l k (by simpa using he)
        split
        · exact hb
        · next h5 =>
          rw [if_neg h5] at h
          split
          · next h0 => rw [if_pos h0] at h; simp at h
          · next h0 =>
            rw [if_neg h0] at h
            split
            · next hl => rw [if_pos hl] at h; simp at h
            · next hl =>
              rw [if_neg hl] at h
              split
              · next ho =>
                rw [if_pos ho] at h
                have b1 := i4 dep _ hb.2 ho
                have b2 := i3 dep _ _ b1.2 h
                omega
              · next ho => rw [if_neg ho] at h; exact absurd h ho
    · rw [entOf] at h ⊢
      split
      · next h2 => rw [if_pos h2] at h; simp at h
      · next h2 =>
        rw [if_neg h2] at h
        split
        · next he => rw [if_pos he] at h; exact absurd h he
        · next he =>
          rw [if_neg he] at h
          have hb := next_le l t.to (by simpa using he)
          split
          · next ho =>
            have b1 := i1 dep _ hb.2 ho
            exact ⟨Nat.le_trans hb.1 b1.1, b1.2⟩
          · next ho => rw [if_neg ho] at h; exact absurd h ho

/-- Entries as they were written are no more than may be. -/
theorem upE_len (l : List UInt8) : ∀ (F : Nat) (dep : Nat) (acc : List Entr) (k : Nat), acc.length ≤ 1024 → (upE F l dep acc k).2.1.length ≤ 1024
  | 0, _, _, _, _ => by rw [upE]; exact Nat.zero_le _
  | F + 1, dep, acc, k, h => by
    rw [upE]
    split
    · exact Nat.zero_le _
    · split
      · exact h
      · split
        · exact Nat.zero_le _
        · split
          · exact Nat.zero_le _
          · next hl =>
            split
            · exact upE_len l F dep _ _ (by simp; omega)
            · exact Nat.zero_le _

end Go.Proofs.Ytakbhdhlcnpejaa.Cx
