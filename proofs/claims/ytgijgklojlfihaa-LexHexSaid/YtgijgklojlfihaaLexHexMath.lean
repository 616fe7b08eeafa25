/-
  Bytes in digits of sixteen.
-/
import Derived.Test.YtgijgklojlfihaaLexAlone
namespace Go.Proofs.Ytgijgklojlfihaa.Lx

/-- A digit of sixteen, great or small. -/
def dg (g : Bool) (n : Nat) : UInt8 := if n < 10 then UInt8.ofNat (48 + n) else if g then UInt8.ofNat (55 + n) else UInt8.ofNat (87 + n)
def pairB (g : Bool) (c : UInt8) : List UInt8 := [dg g (c.toNat / 16), dg g (c.toNat % 16)]
theorem pair_is (g : Bool) (c : UInt8) : isHex (dg g (c.toNat / 16)) = true ∧ isHex (dg g (c.toNat % 16)) = true ∧ (hexV (dg g (c.toNat / 16)) <<< 4) ||| hexV (dg g (c.toNat % 16)) = c ∧ hexV (dg g (c.toNat / 16)) <<< 4 = c &&& 240 := by
  have := byte_all (fun c => decide (∀ g : Bool, isHex (dg g (c.toNat / 16)) = true ∧ isHex (dg g (c.toNat % 16)) = true ∧ (hexV (dg g (c.toNat / 16)) <<< 4) ||| hexV (dg g (c.toNat % 16)) = c ∧ hexV (dg g (c.toNat / 16)) <<< 4 = c &&& 240)) (by kernel_rfl) c
  exact of_decide_eq_true this g
theorem hex_pair (g : Bool) (c : UInt8) (acc r : List UInt8) (k : Nat) : hexGo acc none (pairB g c ++ r) k = hexGo (acc ++ [c]) none r (k + 2) := by
  obtain ⟨h1, h2, h3, _⟩ := pair_is g c
  show hexGo acc none (dg g (c.toNat / 16) :: dg g (c.toNat % 16) :: r) k = _
  rw [hex_first h1, hex_second h2, h3]
theorem hex_pairs (g : Bool) : ∀ (l acc r : List UInt8) (k : Nat), hexGo acc none (l.flatMap (pairB g) ++ r) k = hexGo (acc ++ l) none r (k + 2 * l.length)
  | [], acc, r, k => by simp
  | c :: l, acc, r, k => by
    rw [List.flatMap_cons, List.append_assoc, hex_pair, hex_pairs g l, List.append_assoc]
    simp only [List.length_cons, List.singleton_append]
    congr 1; omega
theorem pairs_len (g : Bool) : ∀ l : List UInt8, (l.flatMap (pairB g)).length = 2 * l.length
  | [] => rfl
  | c :: l => by rw [List.flatMap_cons, List.length_append, pairs_len g l]; simp [pairB]; omega
theorem head_pair (g : Bool) (c : UInt8) : (dg g (c.toNat / 16) == 60) = false := by
  have := byte_all (fun c => decide (∀ g : Bool, (dg g (c.toNat / 16) == 60) = false)) (by kernel_rfl) c
  exact of_decide_eq_true this g

theorem spc_open (r : List UInt8) : spc false (60 :: r) = 0 := by
  rw [spc, if_neg (by decide), if_neg (by decide)]
theorem tok_hex (d : UInt8) (r : List UInt8) (h : (d == 60) = false) : tokV (60 :: d :: r) 0 = ofR3 3 (hexGo [] none (d :: r) 1) := by
  show (if ((some d : Option UInt8) == some 60) = true then _ else ofR3 3 (hexGo [] none (d :: r) (0 + 1))) = _
  have : ((some d : Option UInt8) == some 60) = false := by
    have h' : d ≠ 60 := by simpa using h
    simp [h']
  rw [this]; rfl
theorem next_hex (g : Bool) (l r : List UInt8) (hl : l ≠ []) : nextV (60 :: (l.flatMap (pairB g) ++ (62 :: r))) 0 = (0, ⟨3, 0, l, false, 0, 2 * l.length + 2⟩) := by
  obtain ⟨c, l', rfl⟩ : ∃ c l', l = c :: l' := by cases l with | nil => exact absurd rfl hl | cons c l' => exact ⟨c, l', rfl⟩
  have e : (c :: l').flatMap (pairB g) ++ (62 :: r) = dg g (c.toNat / 16) :: (dg g (c.toNat % 16) :: (l'.flatMap (pairB g) ++ (62 :: r))) := by simp [pairB]
  have ht : tokV (60 :: ((c :: l').flatMap (pairB g) ++ (62 :: r))) 0 = (0, ⟨3, 0, c :: l', false, 0, 2 * (c :: l').length + 2⟩) := by
    rw [e, tok_hex _ _ (head_pair g c), ← e, hex_pairs, hex_done rfl]
    simp [ofR3]; omega
  rw [next_zero, spc_open, ht]
  rfl
theorem next_half (g : Bool) (l : List UInt8) (x : UInt8) (r : List UInt8) : nextV (60 :: (l.flatMap (pairB g) ++ (dg g (x.toNat / 16) :: 62 :: r))) 0 = (0, ⟨3, 0, l ++ [x &&& 240], false, 0, 2 * l.length + 3⟩) := by
  obtain ⟨h1, h2, h3, h4⟩ := pair_is g x
  have hh : hexGo [] none (l.flatMap (pairB g) ++ (dg g (x.toNat / 16) :: 62 :: r)) 1 = (0, l ++ [x &&& 240], 2 * l.length + 3) := by
    rw [hex_pairs, hex_first h1, hex_done rfl, h4]
    simp; omega
  have ht : tokV (60 :: (l.flatMap (pairB g) ++ (dg g (x.toNat / 16) :: 62 :: r))) 0 = (0, ⟨3, 0, l ++ [x &&& 240], false, 0, 2 * l.length + 3⟩) := by
    cases l with
    | nil =>
      rw [List.flatMap_nil, List.nil_append] at hh ⊢
      rw [tok_hex _ _ (head_pair g x), hh]; rfl
    | cons c l' =>
      have e : (c :: l').flatMap (pairB g) ++ (dg g (x.toNat / 16) :: 62 :: r) = dg g (c.toNat / 16) :: (dg g (c.toNat % 16) :: (l'.flatMap (pairB g) ++ (dg g (x.toNat / 16) :: 62 :: r))) := by simp [pairB]
      rw [e] at hh ⊢
      rw [tok_hex _ _ (head_pair g c), hh]; rfl
  rw [next_zero, spc_open, ht]
  rfl

end Go.Proofs.Ytgijgklojlfihaa.Lx
