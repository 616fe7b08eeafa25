/-
  What Quote tells is a Text of the same bytes; what NameOf tells is a Name of them.
-/
import Derived.Test.YtkpagahnmbchjaaGreatDoorLexAlone
namespace Go.Proofs.YtkpagahnmbchjaaGreatDoor.Lx

theorem octD_is {n : Nat} (h : n < 8) : isOct (octD n) = true ∧ (octD n).toNat - 48 = n := by
  have key : ∀ m : Fin 8, isOct (octD m.val) = true ∧ (octD m.val).toNat - 48 = m.val := by decide
  exact key ⟨n, h⟩
theorem oct_three {a b c : Nat} (ha : a < 8) (hb : b < 8) (hc : c < 8) (r : List UInt8) : oct 0 3 (octD a :: octD b :: octD c :: r) = (64 * a + 8 * b + c, 3) := by
  unfold oct; rw [if_pos (octD_is ha).1, (octD_is ha).2]
  unfold oct; rw [if_pos (octD_is hb).1, (octD_is hb).2]
  unfold oct; rw [if_pos (octD_is hc).1, (octD_is hc).2]
  unfold oct
  simp only [Prod.mk.injEq, and_true]; omega

/-- How each byte stands. -/
theorem quote_as (c : UInt8) : (∃ x, quoteB c = [92, x] ∧ isOct x = false ∧ x ≠ 13 ∧ x ≠ 10 ∧ escB x = c) ∨ (quoteB c = [c] ∧ c ≠ 92 ∧ c ≠ 40 ∧ c ≠ 41 ∧ c ≠ 13) ∨
    quoteB c = [92, octD (c.toNat / 64), octD (c.toNat / 8 % 8), octD (c.toNat % 8)] := by
  have := byte_all (fun c => decide ((quoteB c = [92, (quoteB c).getD 1 0] ∧ isOct ((quoteB c).getD 1 0) = false ∧ (quoteB c).getD 1 0 ≠ 13 ∧ (quoteB c).getD 1 0 ≠ 10 ∧ escB ((quoteB c).getD 1 0) = c) ∨ (quoteB c = [c] ∧ c ≠ 92 ∧ c ≠ 40 ∧ c ≠ 41 ∧ c ≠ 13) ∨
    quoteB c = [92, octD (c.toNat / 64), octD (c.toNat / 8 % 8), octD (c.toNat % 8)])) (by kernel_rfl) c
  rcases of_decide_eq_true this with h | h | h
  · exact .inl ⟨_, h⟩
  · exact .inr (.inl h)
  · exact .inr (.inr h)

theorem text_quote (c : UInt8) (acc r : List UInt8) (d k : Nat) : textGo acc d 0 (quoteB c ++ r) k = textGo (acc ++ [c]) d 0 r (k + (quoteB c).length) := by
  rcases quote_as c with ⟨x, h, h1, h2, h3, h4⟩ | ⟨h, h1, h2, h3, h4⟩ | h
  · rw [h]
    show textGo acc d 0 (92 :: x :: r) k = _
    rw [text_esc rfl, esc_other h1 h2 h3, h4]
    rfl
  · rw [h]
    show textGo acc d 0 (c :: r) k = _
    rw [text_byte h1 h2 h3 h4]
    rfl
  · have hl := c.toNat_lt
    have ha : c.toNat / 64 < 8 := by omega
    have hb : c.toNat / 8 % 8 < 8 := by omega
    have hc : c.toNat % 8 < 8 := by omega
    rw [h]
    show textGo acc d 0 (92 :: octD (c.toNat / 64) :: octD (c.toNat / 8 % 8) :: octD (c.toNat % 8) :: r) k = _
    rw [text_esc rfl, esc_cons, if_pos (octD_is ha).1, oct_three ha hb hc]
    have hv : UInt8.ofNat (64 * (c.toNat / 64) + 8 * (c.toNat / 8 % 8) + c.toNat % 8) = c := by
      rw [show 64 * (c.toNat / 64) + 8 * (c.toNat / 8 % 8) + c.toNat % 8 = c.toNat by omega]
      simp
    simp only []
    rw [hv]
    rfl
theorem text_quotes : ∀ (l acc r : List UInt8) (d k : Nat), textGo acc d 0 (l.flatMap quoteB ++ r) k = textGo (acc ++ l) d 0 r (k + (l.flatMap quoteB).length)
  | [], acc, r, d, k => by simp
  | c :: l, acc, r, d, k => by
    rw [List.flatMap_cons, List.append_assoc, text_quote, text_quotes l, List.append_assoc, List.length_append]
    congr 1
    omega

theorem spc_not {b : UInt8} (h : white b = false) (h' : b ≠ 37) (r : List UInt8) : spc false (b :: r) = 0 := by
  rw [spc, h, if_neg (by simp), if_neg (by simpa using h')]

theorem next_quote (l more : List UInt8) : nextV (quoteV l ++ more) 0 = (0, ⟨3, 0, l, false, 0, (quoteV l).length⟩) := by
  have e : quoteV l ++ more = 40 :: (l.flatMap quoteB ++ (41 :: more)) := by simp [quoteV]
  have ht : tokV (40 :: (l.flatMap quoteB ++ (41 :: more))) 0 = (0, ⟨3, 0, l, false, 0, (quoteV l).length⟩) := by
    show ofR3 3 (textGo [] 0 0 (l.flatMap quoteB ++ (41 :: more)) (0 + 1)) = _
    rw [text_quotes, text_done rfl]
    simp [ofR3, quoteV]
    omega
  rw [e, next_zero, spc_not rfl (by decide), ht]
  rfl

theorem name_as (c : UInt8) : (nameB c = [c] ∧ reg c = true ∧ c ≠ 35) ∨ ∃ x y, nameB c = [35, x, y] ∧ isHex x = true ∧ isHex y = true ∧ hexV x <<< 4 ||| hexV y = c := by
  have := byte_all (fun c => decide ((nameB c = [c] ∧ reg c = true ∧ c ≠ 35) ∨ (nameB c = [35, (nameB c).getD 1 0, (nameB c).getD 2 0] ∧ isHex ((nameB c).getD 1 0) = true ∧ isHex ((nameB c).getD 2 0) = true ∧ hexV ((nameB c).getD 1 0) <<< 4 ||| hexV ((nameB c).getD 2 0) = c))) (by kernel_rfl) c
  rcases of_decide_eq_true this with h | h
  · exact .inl h
  · exact .inr ⟨_, _, h⟩
theorem name_one (c : UInt8) (acc r : List UInt8) (k : Nat) : nameGo acc 0 (nameB c ++ r) k = nameGo (acc ++ [c]) 0 r (k + (nameB c).length) := by
  rcases name_as c with ⟨h, h1, h2⟩ | ⟨x, y, h, h1, h2, h3⟩
  · rw [h]
    show nameGo acc 0 (c :: r) k = _
    rw [name_byte h1 h2]; rfl
  · rw [h]
    show nameGo acc 0 (35 :: x :: y :: r) k = _
    rw [name_two rfl h1 h2, h3]; rfl
theorem name_all : ∀ (l acc r : List UInt8) (k : Nat), nameGo acc 0 (l.flatMap nameB ++ r) k = nameGo (acc ++ l) 0 r (k + (l.flatMap nameB).length)
  | [], acc, r, k => by simp
  | c :: l, acc, r, k => by
    rw [List.flatMap_cons, List.append_assoc, name_one, name_all l, List.append_assoc, List.length_append]
    congr 1
    omega
theorem next_name (l more : List UInt8) (hm : more = [] ∨ ∃ b r, more = b :: r ∧ reg b = false) : nextV (nameV l ++ more) 0 = (0, ⟨2, 0, l, false, 0, (nameV l).length⟩) := by
  have e : nameV l ++ more = 47 :: (l.flatMap nameB ++ more) := by simp [nameV]
  have ht : tokV (47 :: (l.flatMap nameB ++ more)) 0 = (0, ⟨2, 0, l, false, 0, (nameV l).length⟩) := by
    show ofR3 2 (nameGo [] 0 (l.flatMap nameB ++ more) (0 + 1)) = _
    rw [name_all]
    rcases hm with rfl | ⟨b, r, rfl, hb⟩
    · rw [name_end]; simp [ofR3, nameV]; omega
    · rw [name_stop hb]; simp [ofR3, nameV]; omega
  rw [e, next_zero, spc_not rfl (by decide), ht]
  rfl

/-- Bytes between parentheses that pair. -/
def wrap (l : List UInt8) : Nat → List UInt8
  | 0 => l
  | k + 1 => 40 :: (wrap l k ++ [41])
theorem wrap_len (l : List UInt8) : ∀ k, (wrap l k).length = l.length + 2 * k
  | 0 => rfl
  | k + 1 => by simp [wrap, wrap_len l k]; omega
def plainB (b : UInt8) : Prop := b ≠ 92 ∧ b ≠ 40 ∧ b ≠ 41 ∧ b ≠ 13
theorem text_plain : ∀ (l acc r : List UInt8) (d p : Nat), (∀ b ∈ l, plainB b) → textGo acc d 0 (l ++ r) p = textGo (acc ++ l) d 0 r (p + l.length)
  | [], acc, r, d, p, _ => by simp
  | b :: l, acc, r, d, p, h => by
    obtain ⟨h1, h2, h3, h4⟩ := h b List.mem_cons_self
    rw [List.cons_append, text_byte h1 h2 h3 h4, text_plain l _ r d _ (fun x hx => h x (List.mem_cons_of_mem _ hx)), List.append_assoc]
    simp only [List.length_cons, List.singleton_append]
    congr 1; omega
theorem text_wrap (l : List UInt8) (h : ∀ b ∈ l, plainB b) : ∀ (k : Nat) (acc r : List UInt8) (d p : Nat), textGo acc d 0 (wrap l k ++ r) p = textGo (acc ++ wrap l k) d 0 r (p + (wrap l k).length)
  | 0, acc, r, d, p => text_plain l acc r d p h
  | k + 1, acc, r, d, p => by
    have e : wrap l (k + 1) ++ r = 40 :: (wrap l k ++ (41 :: r)) := by simp [wrap]
    rw [e, text_open rfl, text_wrap l h k, text_close rfl]
    simp only [wrap, List.append_assoc, List.length_cons, List.length_append, List.length_nil, List.singleton_append]
    congr 1; omega
theorem next_pairs (l : List UInt8) (h : ∀ b ∈ l, plainB b) (k : Nat) (r : List UInt8) : nextV (40 :: (wrap l k ++ (41 :: r))) 0 = (0, ⟨3, 0, wrap l k, false, 0, (wrap l k).length + 2⟩) := by
  have ht : tokV (40 :: (wrap l k ++ (41 :: r))) 0 = (0, ⟨3, 0, wrap l k, false, 0, (wrap l k).length + 2⟩) := by
    show ofR3 3 (textGo [] 0 0 (wrap l k ++ (41 :: r)) (0 + 1)) = _
    rw [text_wrap l h, text_done rfl]
    simp [ofR3]; omega
  rw [next_zero, spc_not rfl (by decide), ht]
  rfl
theorem next_short (l : List UInt8) (h : ∀ b ∈ l, plainB b) (k : Nat) : nextV (40 :: 40 :: (wrap l k ++ [41])) 0 = (4, zero) := by
  have ht : tokV (40 :: 40 :: (wrap l k ++ [41])) 0 = (4, zero) := by
    show ofR3 3 (textGo [] 0 0 (40 :: (wrap l k ++ [41])) (0 + 1)) = _
    rw [text_open rfl, text_wrap l h, text_close rfl, text_end]
    rfl
  rw [next_zero, spc_not rfl (by decide), ht]
  rfl

end Go.Proofs.YtkpagahnmbchjaaGreatDoor.Lx
