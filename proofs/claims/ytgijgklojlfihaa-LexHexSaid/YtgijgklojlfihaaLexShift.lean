/-
  A token is the same wherever its bytes stand: only its places move.
-/
import Derived.Test.YtgijgklojlfihaaLexMath
namespace Go.Proofs.Ytgijgklojlfihaa.Lx

/-- An answer, n bytes further on. -/
def add3 (n : Nat) (x : R3) : R3 := if x.1 = 0 then (x.1, x.2.1, x.2.2 + n) else x

theorem name_shift (n : Nat) (acc : List UInt8) (m : Nat) (l : List UInt8) (k : Nat) : nameGo acc m l (k + n) = add3 n (nameGo acc m l k) := by
  fun_induction nameGo acc m l k with
  | case1 => unfold nameGo; rfl
  | case2 acc k m b r ih => rw [nameGo, ← ih]; congr 1; omega
  | case3 acc k b h1 h2 a c tail h3 ih =>
    rw [nameGo.eq_def]; simp only [h1, h2, h3, if_true]; rw [← ih]; congr 1; omega
  | case4 acc k b h1 h2 a c tail h3 =>
    rw [nameGo.eq_def]; simp only [h1, h2, h3, if_true, if_false, Bool.false_eq_true]; rfl
  | case5 acc b r k h1 h2 h3 =>
    rw [nameGo.eq_def]; simp only [h1, h2, if_true]
    match r, h3 with
    | [], _ => rfl
    | [_], _ => rfl
    | x :: y :: z, h3 => exact absurd rfl (h3 x y z)
  | case6 acc k b r h1 h2 ih =>
    rw [nameGo.eq_def]; simp only [h1, h2, if_true, if_false, Bool.false_eq_true]; rw [← ih]; congr 1; omega
  | case7 acc k b r h1 =>
    rw [nameGo.eq_def]; simp only [h1, if_false, Bool.false_eq_true]; rfl

theorem text_shift (n : Nat) (acc : List UInt8) (d m : Nat) (l : List UInt8) (k : Nat) : textGo acc d m l (k + n) = add3 n (textGo acc d m l k) := by
  fun_induction textGo acc d m l k with
  | case1 => unfold textGo; rfl
  | case2 acc d k m b r ih => rw [textGo, ← ih]; congr 1; omega
  | case3 acc d k b r h1 ih => rw [textGo.eq_def]; simp only [h1, if_true]; rw [← ih]; congr 1; omega
  | case4 acc d k b r h1 h2 ih => rw [textGo.eq_def]; simp only [h1, h2, if_true, if_false, Bool.false_eq_true]; rw [← ih]; congr 1; omega
  | case5 acc k b r h1 h2 h3 => rw [textGo.eq_def]; simp only [h1, h2, h3, if_true, if_false, Bool.false_eq_true]; unfold add3; simp; omega
  | case6 acc k b r h1 h2 h3 d ih => rw [textGo.eq_def]; simp only [h1, h2, h3, if_true, if_false, Bool.false_eq_true]; rw [← ih]; congr 1; omega
  | case7 acc d k b r h1 h2 h3 h4 ih => rw [textGo.eq_def]; simp only [h1, h2, h3, h4, if_true, if_false, Bool.false_eq_true]; rw [← ih]; congr 1; omega
  | case8 acc d k b r h1 h2 h3 h4 ih => rw [textGo.eq_def]; simp only [h1, h2, h3, h4, if_false, Bool.false_eq_true]; rw [← ih]; congr 1; omega

theorem hex_shift (n : Nat) (acc : List UInt8) (h : Option UInt8) (l : List UInt8) (k : Nat) : hexGo acc h l (k + n) = add3 n (hexGo acc h l k) := by
  fun_induction hexGo acc h l k with
  | case1 => unfold hexGo; rfl
  | case2 acc h b r k h1 => rw [hexGo.eq_def]; simp only [h1, if_true]; unfold add3; simp; omega
  | case3 acc h b r k h1 h2 ih => rw [hexGo.eq_def]; simp only [h1, h2, if_true, if_false, Bool.false_eq_true]; rw [← ih]; congr 1; omega
  | case4 acc b r k h1 h2 h3 ih => rw [hexGo.eq_def]; simp only [h1, h2, h3, if_true, if_false, Bool.false_eq_true]; rw [← ih]; congr 1; omega
  | case5 acc b r k h1 h2 h3 u ih => rw [hexGo.eq_def]; simp only [h1, h2, h3, if_true, if_false, Bool.false_eq_true]; rw [← ih]; congr 1; omega
  | case6 acc h b r k h1 h2 h3 => rw [hexGo.eq_def]; simp only [h1, h2, h3, if_false, Bool.false_eq_true]; rfl

/-- A token with its places n further on. -/
def addT (n : Nat) (x : Int × Tok) : Int × Tok := if x.1 = 0 then (x.1, { x.2 with to := x.2.to + n }) else x
theorem ofR3_add (n : Nat) (kind : Int) (x : R3) : ofR3 kind (add3 n x) = addT n (ofR3 kind x) := by
  unfold ofR3 add3 addT
  by_cases h : x.1 = 0
  · simp [h]
  · rw [if_neg h, if_neg h, if_neg h]

theorem tok_shift (a l : List UInt8) (k : Nat) : tokV (a ++ l) (k + a.length) = addT a.length (tokV l k) := by
  have hd : (a ++ l).drop (k + a.length) = l.drop k := by rw [Nat.add_comm, ← List.drop_drop, List.drop_left]
  have hw : wordV (a ++ l) (k + a.length) = addT a.length (wordV l k) := by
    unfold wordV
    rw [hd]
    unfold addT
    split
    · split
      · simp; omega
      · simp
    · simp; omega
  unfold tokV
  rw [hd]
  cases l.drop k with
  | nil => rfl
  | cons b r =>
    simp only []
    rw [show k + a.length + 1 = k + 1 + a.length by omega, show k + a.length + 2 = k + 2 + a.length by omega, hw, hex_shift, name_shift, text_shift, ofR3_add, ofR3_add, ofR3_add]
    split
    · rfl
    split
    · rfl
    split
    · split <;> rfl
    split
    · split <;> rfl
    split
    · rfl
    split
    · rfl
    split <;> rfl

theorem next_zero (l : List UInt8) : nextV l 0 = if (tokV l (spc false l)).1 = 0 then (0, { (tokV l (spc false l)).2 with frm := spc false l }) else ((tokV l (spc false l)).1, zero) := by
  have hs : spaceV l 0 = spc false l := by
    unfold spaceV
    have h0 : (min (max (0 : Int) 0) (l.length : Int)).toNat = 0 := by omega
    rw [h0, List.drop_zero]; omega
  unfold nextV
  rw [if_pos ⟨by omega, by omega⟩, hs]

theorem spc_comment : ∀ (c r : List UInt8), (∀ b ∈ c, inLine b = true) → spc true (c ++ r) = c.length + spc true r
  | [], r, _ => by simp
  | b :: c, r, h => by
    rw [List.cons_append, spc, if_pos (h b List.mem_cons_self), spc_comment c r (fun x hx => h x (List.mem_cons_of_mem _ hx))]
    simp; omega

/-- White and a comment ahead move a token, and nothing else. -/
theorem next_spaces (c l : List UInt8) (hc : ∀ b ∈ c, inLine b = true) :
    nextV ([32, 9, 37] ++ c ++ [10, 0] ++ l) 0 = if (nextV l 0).1 = 0 then (0, { (nextV l 0).2 with frm := (nextV l 0).2.frm + (c.length + 5), to := (nextV l 0).2.to + (c.length + 5) }) else nextV l 0 := by
  have hsp : spc false ([32, 9, 37] ++ c ++ [10, 0] ++ l) = spc false l + (c.length + 5) := by
    have e : [32, 9, 37] ++ c ++ [10, 0] ++ l = 32 :: 9 :: 37 :: (c ++ (10 :: 0 :: l)) := by simp
    rw [e, spc, if_pos (show white 32 = true from rfl), spc, if_pos (show white 9 = true from rfl), spc, if_neg (show ¬ white 37 = true by decide), if_pos (show ((37 : UInt8) == 37) = true from rfl), spc_comment c _ hc, spc, if_neg (show ¬ inLine 10 = true by decide), spc, if_pos (show white 0 = true from rfl)]
    omega
  have hlen : ([32, 9, 37] ++ c ++ [10, 0]).length = c.length + 5 := by simp
  have ht := tok_shift ([32, 9, 37] ++ c ++ [10, 0]) l (spc false l)
  rw [hlen] at ht
  rw [next_zero, hsp, ht, next_zero]
  unfold addT
  by_cases h : (tokV l (spc false l)).1 = 0
  · simp [h]
  · simp [h]

end Go.Proofs.Ytgijgklojlfihaa.Lx
