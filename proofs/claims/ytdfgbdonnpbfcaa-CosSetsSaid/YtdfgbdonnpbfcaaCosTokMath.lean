/-
  How great a token's number is, and how long its text.
-/
import Derived.Test.YtdfgbdonnpbfcaaLexBound
import Derived.Test.YtdfgbdonnpbfcaaCosMath
namespace Go.Proofs.Ytdfgbdonnpbfcaa.Lx

theorem chkV_bd (x : Int) : -2147483648 ≤ Fx.chkV x ∧ Fx.chkV x ≤ 2147483648 := by
  unfold Fx.chkV
  split
  · next h => exact ⟨Fx.sane_lo h, Fx.sane_hi h⟩
  · omega
theorem parseV_bd (l : List UInt8) : -2147483648 ≤ Fx.parseV l ∧ Fx.parseV l ≤ 2147483648 := by
  unfold Fx.parseV
  split
  · omega
  · split
    · exact chkV_bd _
    · omega

theorem lo0 : (-2147483648 : Int) ≤ 0 := by decide
theorem hi0 : (0 : Int) ≤ 2147483648 := by decide
theorem esc_one (l : List UInt8) : (esc l).1.length ≤ 1 := by
  cases l with
  | nil => simp [esc]
  | cons b r => rw [esc_cons]; repeat' split
                all_goals simp
theorem name_len (acc : List UInt8) (m : Nat) (l : List UInt8) (k : Nat) : (nameGo acc m l k).2.1.length ≤ acc.length + l.length := by
  fun_induction nameGo acc m l k with
  | case1 => simp
  | case2 acc k m b r ih => simp only [List.length_cons]; omega
  | case3 acc k b h1 h2 a c tail h3 ih => simp only [List.length_cons, List.length_append, List.length_nil] at ih ⊢; omega
  | case4 => simp
  | case5 => simp
  | case6 acc k b r h1 h2 ih => simp only [List.length_cons, List.length_append, List.length_nil] at ih ⊢; omega
  | case7 => simp
theorem text_len (acc : List UInt8) (d m : Nat) (l : List UInt8) (k : Nat) : (textGo acc d m l k).2.1.length ≤ acc.length + l.length := by
  fun_induction textGo acc d m l k with
  | case1 => simp
  | case5 => simp
  | case2 acc d k m b r ih => simp only [List.length_cons]; omega
  | case3 acc d b r k h1 ih => have := esc_one r; simp only [List.length_cons, List.length_append] at ih ⊢; omega
  | case4 acc d k b r h1 h2 ih => simp only [List.length_cons, List.length_append, List.length_nil] at ih ⊢; omega
  | case6 acc k b r h1 h2 h3 d ih => simp only [List.length_cons, List.length_append, List.length_nil] at ih ⊢; omega
  | case7 acc d k b r h1 h2 h3 h4 ih => simp only [List.length_cons, List.length_append, List.length_nil] at ih ⊢; omega
  | case8 acc d k b r h1 h2 h3 h4 ih => simp only [List.length_cons, List.length_append, List.length_nil] at ih ⊢; omega
theorem hex_len (acc : List UInt8) (h : Option UInt8) (l : List UInt8) (k : Nat) : (hexGo acc h l k).2.1.length ≤ acc.length + h.toList.length + l.length := by
  fun_induction hexGo acc h l k with
  | case1 => simp
  | case2 => simp
  | case3 acc h b r k h1 h2 ih => simp only [List.length_cons]; omega
  | case4 acc b r k h1 h2 h3 ih => simp only [List.length_cons, Option.toList, List.length_nil] at ih ⊢; omega
  | case5 acc b r k h1 h2 h3 u ih => simp only [List.length_cons, List.length_append, Option.toList, List.length_nil] at ih ⊢; omega
  | case6 => simp

theorem ofR3_len {kind : Int} {x : R3} : (ofR3 kind x).2.f = 0 ∧ (ofR3 kind x).2.s.length ≤ x.2.1.length := by
  unfold ofR3; split
  · exact ⟨rfl, Nat.le_refl _⟩
  · exact ⟨rfl, Nat.zero_le _⟩
theorem wordV_len (l : List UInt8) (k : Nat) : -2147483648 ≤ (wordV l k).2.f ∧ (wordV l k).2.f ≤ 2147483648 ∧ (wordV l k).2.s.length ≤ l.length := by
  unfold wordV
  have h1 := parseV_bd ((l.drop k).take (tw reg (l.drop k)))
  split
  · split
    · exact ⟨h1.1, h1.2, Nat.zero_le _⟩
    · exact ⟨lo0, hi0, Nat.zero_le _⟩
  · refine ⟨lo0, hi0, ?_⟩
    simp only [List.length_take, List.length_drop]; omega
theorem tok_len (l : List UInt8) (k : Nat) : -2147483648 ≤ (tokV l k).2.f ∧ (tokV l k).2.f ≤ 2147483648 ∧ (tokV l k).2.s.length ≤ l.length := by
  have hr : ∀ (kind : Int) (x : R3) (n : Nat), x.2.1.length ≤ n → n ≤ l.length → -2147483648 ≤ (ofR3 kind x).2.f ∧ (ofR3 kind x).2.f ≤ 2147483648 ∧ (ofR3 kind x).2.s.length ≤ l.length := fun kind x n h1 h2 => by
    have := @ofR3_len kind x
    rw [this.1]; omega
  have hlen : (l.drop k).length = l.length - k := List.length_drop
  unfold tokV
  cases hd : l.drop k with
  | nil => exact ⟨lo0, hi0, Nat.zero_le _⟩
  | cons b r =>
    rw [hd] at hlen
    simp only [List.length_cons] at hlen
    simp only []
    have z : ∀ (e kd : Int) (to_ : Nat), -2147483648 ≤ (((e, ⟨kd, 0, [], false, 0, to_⟩) : Int × Tok)).2.f ∧ (((e, ⟨kd, 0, [], false, 0, to_⟩) : Int × Tok)).2.f ≤ 2147483648 ∧ (((e, ⟨kd, 0, [], false, 0, to_⟩) : Int × Tok)).2.s.length ≤ l.length := fun _ _ _ => ⟨lo0, hi0, Nat.zero_le _⟩
    split
    · exact z _ _ _
    · split
      · exact z _ _ _
      · split
        · split
          · exact z _ _ _
          · exact hr _ _ r.length (by have := hex_len [] none r (k + 1); simpa using this) (by omega)
        · split
          · split
            · exact z _ _ _
            · exact z _ _ _
          · split
            · exact hr _ _ r.length (by have := name_len [] 0 r (k + 1); simpa using this) (by omega)
            · split
              · exact hr _ _ r.length (by have := text_len [] 0 0 r (k + 1); simpa using this) (by omega)
              · split
                · exact z _ _ _
                · exact wordV_len l k
theorem next_len (l : List UInt8) (a : Int) : -2147483648 ≤ (nextV l a).2.f ∧ (nextV l a).2.f ≤ 2147483648 ∧ (nextV l a).2.s.length ≤ l.length := by
  unfold nextV
  split
  · split
    · exact tok_len l _
    · exact ⟨lo0, hi0, Nat.zero_le _⟩
  · exact ⟨lo0, hi0, Nat.zero_le _⟩

/-- A token in the place of none: the zero one, an End, at 0. -/
theorem next_to (l : List UInt8) (a : Int) : (nextV l a).2.to ≤ l.length := by
  by_cases h : (nextV l a).1 = 0
  · exact (next_bd l a h).2.2.2.2.2.1
  · have : (nextV l a).2 = zero := by
      unfold nextV at h ⊢
      split
      · split
        · next h1 h2 => rw [if_pos h1, if_pos h2] at h; exact absurd rfl h
        · rfl
      · rfl
    rw [this]; exact Nat.zero_le _
theorem next_zero_of (l : List UInt8) (a : Int) (h : (nextV l a).1 ≠ 0) : (nextV l a).2 = zero := by
  unfold nextV at h ⊢
  split
  · split
    · next h1 h2 => rw [if_pos h1, if_pos h2] at h; exact absurd rfl h
    · rfl
  · rfl
theorem tokOf_next (l : List UInt8) (a : Int) : Cx.tokOf (nextV l a) = (nextV l a).2 := by
  unfold Cx.tokOf
  split
  · rfl
  · next h => rw [next_zero_of l a h]

end Go.Proofs.Ytdfgbdonnpbfcaa.Lx
