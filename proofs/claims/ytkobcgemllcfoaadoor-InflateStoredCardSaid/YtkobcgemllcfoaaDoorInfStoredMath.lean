/-
  Bytes in blocks of the kind 0: what blocks tell of them, whole and cut off.
-/
import Derived.Test.YtkobcgemllcfoaaDoorInfBlockMath
namespace Go.Proofs.YtkobcgemllcfoaaDoor.Ix
set_option linter.unusedSimpArgs false
set_option linter.unusedVariables false

theorem bitAt_byte (B : List UInt8) (q i : Nat) (h : i < 8) : bitAt B (8 * q + i) = (B.getD q 0).toNat / 2 ^ i % 2 := by
  unfold bitAt
  rw [show (8 * q + i) / 8 = q by omega, show (8 * q + i) % 8 = i by omega]
theorem num16 (B : List UInt8) (q : Nat) : numAt B 16 (8 * q) = (B.getD q 0).toNat + 256 * (B.getD (q + 1) 0).toNat := by
  have h0 := fun i h => bitAt_byte B q i h
  have h1 := fun i h => bitAt_byte B (q + 1) i h
  have a := (B.getD q 0).toNat_lt
  have b := (B.getD (q + 1) 0).toNat_lt
  simp only [numAt]
  rw [show 8 * q + 15 = 8 * (q + 1) + 7 by omega, show 8 * q + 14 = 8 * (q + 1) + 6 by omega, show 8 * q + 13 = 8 * (q + 1) + 5 by omega, show 8 * q + 12 = 8 * (q + 1) + 4 by omega, show 8 * q + 11 = 8 * (q + 1) + 3 by omega, show 8 * q + 10 = 8 * (q + 1) + 2 by omega, show 8 * q + 9 = 8 * (q + 1) + 1 by omega, show 8 * q + 8 = 8 * (q + 1) + 0 by omega]
  rw [h0 0 (by decide), h0 1 (by decide), h0 2 (by decide), h0 3 (by decide), h0 4 (by decide), h0 5 (by decide), h0 6 (by decide), h0 7 (by decide), h1 0 (by decide), h1 1 (by decide), h1 2 (by decide), h1 3 (by decide), h1 4 (by decide), h1 5 (by decide), h1 6 (by decide), h1 7 (by decide)]
  generalize (B.getD q 0).toNat = x at a
  generalize (B.getD (q + 1) 0).toNat = y at b
  simp only [Nat.reducePow, Nat.div_one]
  omega
theorem num2 (B : List UInt8) (q : Nat) : numAt B 2 (8 * q + 1) = (B.getD q 0).toNat / 2 % 4 := by
  simp only [numAt]
  rw [show 8 * q + 1 + 1 = 8 * q + 2 by omega, show 8 * q + 1 + 0 = 8 * q + 1 by omega, bitAt_byte B q 1 (by decide), bitAt_byte B q 2 (by decide)]
  simp only [Nat.reducePow]
  omega
theorem put_ok {out : List UInt8} (v : UInt8) (h : out.length < 1048576) : putV' out v = .ok (out ++ [v]) := by
  unfold putV'; rw [if_neg (by omega)]
theorem storedGo_full (B : List UInt8) : ∀ n q out, q + n ≤ B.length → out.length + n ≤ 1048576 → storedGo B n (8 * q) out = .ok (out ++ (B.drop q).take n, 8 * (q + n))
  | 0, q, out, _, _ => by simp [storedGo]
  | n + 1, q, out, h, ho => by
    rw [storedGo, if_neg (by omega), put_ok _ (by omega)]
    have := storedGo_full B n (q + 1) (out ++ [B.getD (8 * q / 8) 0]) (by omega) (by rw [List.length_append, List.length_singleton]; omega)
    show storedGo B n (8 * q + 8) _ = _
    rw [show 8 * q + 8 = 8 * (q + 1) by omega, this, show 8 * q / 8 = q by omega, List.drop_eq_getElem_cons (show q < B.length by omega), List.take_succ_cons]
    simp [List.getD, show q < B.length by omega]
    omega
theorem storedGo_short (B : List UInt8) : ∀ n q out, q ≤ B.length → B.length < q + n → out.length + n ≤ 1048576 → storedGo B n (8 * q) out = .error 4
  | 0, q, out, h, h2, _ => by omega
  | n + 1, q, out, h, h2, ho => by
    rw [storedGo]
    by_cases e : q = B.length
    · rw [if_pos (by omega)]
    · rw [if_neg (by omega), put_ok _ (by omega)]
      show storedGo B n (8 * q + 8) _ = _
      rw [show 8 * q + 8 = 8 * (q + 1) by omega]
      exact storedGo_short B n (q + 1) _ (by omega) (by omega) (by rw [List.length_append, List.length_singleton]; omega)

/-- Five bytes ahead of n bytes. -/
structure Head (B : List UInt8) (q n last : Nat) : Prop where
  b0 : (B.getD q 0).toNat = last
  lo : (B.getD (q + 1) 0).toNat + 256 * (B.getD (q + 2) 0).toNat = n
  not : (B.getD (q + 3) 0).toNat + 256 * (B.getD (q + 4) 0).toNat = 65535 - n
  small : n ≤ 2000 ∧ last ≤ 1
theorem block_head {B : List UInt8} {q n last : Nat} (h : Head B q n last) (hq : q < B.length) (out : List UInt8) : blockV B (8 * q) out = lastV (last == 1) (storedV B (8 * q + 3) out) := by
  have := h.small.2
  unfold blockV
  rw [if_pos (by omega), num2, h.b0]
  have e := bitAt_byte B q 0 (by decide)
  rw [Nat.add_zero, h.b0, Nat.pow_zero, Nat.div_one, show last % 2 = last by omega] at e
  rw [e]
  unfold kindV
  rw [if_pos (by omega)]
theorem stored_full {B : List UInt8} {q n last : Nat} (h : Head B q n last) (hq : q + 5 + n ≤ B.length) (out : List UInt8) (ho : out.length + n ≤ 1048576) :
    blockV B (8 * q) out = .ok (last == 1, out ++ (B.drop (q + 5)).take n, 8 * (q + 5 + n)) := by
  rw [block_head h (by omega)]
  have hu : up8 (8 * q + 3) = 8 * (q + 1) := by unfold up8; omega
  have := h.small.1
  have e1 := h.lo
  have e2 := h.not
  unfold storedV
  rw [hu, if_pos (by omega), num16, show 8 * (q + 1) + 16 = 8 * (q + 3) by omega, num16, show q + 1 + 1 = q + 2 by omega, show q + 3 + 1 = q + 4 by omega, if_pos (by omega), e1, show 8 * (q + 1) + 32 = 8 * (q + 5) by omega,
    storedGo_full B n (q + 5) out (by omega) ho]
  rfl
theorem stored_short {B : List UInt8} {q n last : Nat} (h : q + 5 ≤ B.length → Head B q n last) (h0 : q < B.length → (B.getD q 0).toNat = last) (hl : last ≤ 1) (hq : B.length < q + 5 + n) (out : List UInt8) (ho : out.length + n ≤ 1048576) :
    blockV B (8 * q) out = .error 4 := by
  have hu : up8 (8 * q + 3) = 8 * (q + 1) := by unfold up8; omega
  by_cases c1 : B.length ≤ q
  · unfold blockV; rw [if_neg (by omega)]
  · by_cases c2 : q + 5 ≤ B.length
    · have hh := h c2
      rw [block_head hh (by omega)]
      have := hh.small.1
      have e1 := hh.lo
      have e2 := hh.not
      unfold storedV
      rw [hu, if_pos (by omega), num16, show 8 * (q + 1) + 16 = 8 * (q + 3) by omega, num16, show q + 1 + 1 = q + 2 by omega, show q + 3 + 1 = q + 4 by omega, if_pos (by omega), e1, show 8 * (q + 1) + 32 = 8 * (q + 5) by omega,
        storedGo_short B n (q + 5) out (by omega) (by omega) ho]
      rfl
    · unfold blockV
      rw [if_pos (by omega), num2, h0 (by omega)]
      unfold kindV
      rw [if_pos (by omega)]
      unfold storedV
      rw [hu, if_neg (by omega)]
      rfl

/-- Two such blocks. -/
def twoB (a b : List UInt8) (a0 a1 a2 a3 a4 b0 b1 b2 b3 b4 : UInt8) : List UInt8 := [a0, a1, a2, a3, a4] ++ a ++ [b0, b1, b2, b3, b4] ++ b
theorem two_len (a b : List UInt8) (a0 a1 a2 a3 a4 b0 b1 b2 b3 b4 : UInt8) : (twoB a b a0 a1 a2 a3 a4 b0 b1 b2 b3 b4).length = a.length + b.length + 10 := by
  unfold twoB; simp; omega
theorem getD_app (X Y : List UInt8) (i : Nat) (h : i < X.length) : (X ++ Y).getD i 0 = X.getD i 0 := by
  simp [List.getD, List.getElem?_append_left h]
theorem getD_take (X : List UInt8) (k i : Nat) (h : i < k) : (X.take k).getD i 0 = X.getD i 0 := by
  simp [List.getD, List.getElem?_take, h]
theorem getD_far (X Y : List UInt8) (i j : Nat) (h : i = X.length + j) : (X ++ Y).getD i 0 = Y.getD j 0 := by
  subst h
  simp [List.getD, List.getElem?_append_right]
structure TwoB (a b : List UInt8) (a0 a1 a2 a3 a4 b0 b1 b2 b3 b4 : UInt8) : Prop where
  la : a.length ≤ 2000
  lb : b.length ≤ 2000
  a0 : a0.toNat = 0
  al : a1.toNat + 256 * a2.toNat = a.length
  an : a3.toNat + 256 * a4.toNat = 65535 - a.length
  b0 : b0.toNat = 1
  bl : b1.toNat + 256 * b2.toNat = b.length
  bn : b3.toNat + 256 * b4.toNat = 65535 - b.length
section
variable {a b : List UInt8} {a0 a1 a2 a3 a4 b0 b1 b2 b3 b4 : UInt8}
theorem two_first (h : TwoB a b a0 a1 a2 a3 a4 b0 b1 b2 b3 b4) : Head (twoB a b a0 a1 a2 a3 a4 b0 b1 b2 b3 b4) 0 a.length 0 :=
  ⟨h.a0, h.al, h.an, ⟨h.la, by decide⟩⟩
theorem two_at (j : Nat) (hj : j < 5) : (twoB a b a0 a1 a2 a3 a4 b0 b1 b2 b3 b4).getD (a.length + 5 + j) 0 = [b0, b1, b2, b3, b4].getD j 0 := by
  unfold twoB
  rw [getD_app _ _ _ (by simp; omega)]
  exact getD_far _ _ _ _ (by simp)
theorem two_second (h : TwoB a b a0 a1 a2 a3 a4 b0 b1 b2 b3 b4) : Head (twoB a b a0 a1 a2 a3 a4 b0 b1 b2 b3 b4) (a.length + 5) b.length 1 := by
  have e := fun j hj => two_at (a := a) (b := b) (a0 := a0) (a1 := a1) (a2 := a2) (a3 := a3) (a4 := a4) (b0 := b0) (b1 := b1) (b2 := b2) (b3 := b3) (b4 := b4) j hj
  refine ⟨?_, ?_, ?_, ⟨h.lb, by decide⟩⟩
  · have := e 0 (by decide); rw [Nat.add_zero] at this; rw [this]; exact h.b0
  · rw [e 1 (by decide), e 2 (by decide)]; exact h.bl
  · rw [e 3 (by decide), e 4 (by decide)]; exact h.bn
theorem Head.app {X : List UInt8} {q n l : Nat} (h : Head X q n l) (hq : q + 5 ≤ X.length) (Y : List UInt8) : Head (X ++ Y) q n l := by
  obtain ⟨h1, h2, h3, h4⟩ := h
  refine ⟨?_, ?_, ?_, h4⟩
  · rw [getD_app _ _ _ (by omega)]; exact h1
  · rw [getD_app _ _ _ (by omega), getD_app _ _ _ (by omega)]; exact h2
  · rw [getD_app _ _ _ (by omega), getD_app _ _ _ (by omega)]; exact h3
theorem Head.cut {X : List UInt8} {q n l : Nat} (h : Head X q n l) (k : Nat) (hq : q + 5 ≤ k) : Head (X.take k) q n l := by
  obtain ⟨h1, h2, h3, h4⟩ := h
  refine ⟨?_, ?_, ?_, h4⟩
  · rw [getD_take _ _ _ (by omega)]; exact h1
  · rw [getD_take _ _ _ (by omega), getD_take _ _ _ (by omega)]; exact h2
  · rw [getD_take _ _ _ (by omega), getD_take _ _ _ (by omega)]; exact h3
theorem raw_two (h : TwoB a b a0 a1 a2 a3 a4 b0 b1 b2 b3 b4) (Y : List UInt8) :
    rawV (twoB a b a0 a1 a2 a3 a4 b0 b1 b2 b3 b4 ++ Y) = .ok (a ++ b, a.length + b.length + 10) := by
  have hl := two_len a b a0 a1 a2 a3 a4 b0 b1 b2 b3 b4
  have la := h.la
  have lb := h.lb
  have f := stored_full ((two_first h).app (by omega) Y) (by rw [List.length_append, hl]; omega) [] (by simp; omega)
  have g := stored_full ((two_second h).app (by omega) Y) (by rw [List.length_append, hl]; omega) a (by omega)
  have ea : ((twoB a b a0 a1 a2 a3 a4 b0 b1 b2 b3 b4 ++ Y).drop (0 + 5)).take a.length = a := by
    unfold twoB; simp
  have eb : ((twoB a b a0 a1 a2 a3 a4 b0 b1 b2 b3 b4 ++ Y).drop (a.length + 5 + 5)).take b.length = b := by
    unfold twoB
    rw [show a.length + 5 + 5 = 5 + (a.length + 5) by omega]
    rw [← List.drop_drop]
    have : ([a0, a1, a2, a3, a4] ++ a ++ [b0, b1, b2, b3, b4] ++ b ++ Y).drop 5 = a ++ ([b0, b1, b2, b3, b4] ++ (b ++ Y)) := by simp
    rw [this, ← List.drop_drop, List.drop_left]
    simp
  rw [ea, List.nil_append, show 8 * 0 = 0 by rfl, show 0 + 5 + a.length = a.length + 5 by omega] at f
  rw [eb] at g
  unfold rawV
  obtain ⟨F, hF⟩ : ∃ F, 8 * (twoB a b a0 a1 a2 a3 a4 b0 b1 b2 b3 b4 ++ Y).length + 1 = F + 1 + 1 := ⟨8 * (twoB a b a0 a1 a2 a3 a4 b0 b1 b2 b3 b4 ++ Y).length - 1, by rw [List.length_append, hl]; omega⟩
  rw [hF, raw_more f, raw_last g]
  congr 2; omega
theorem raw_cut (h : TwoB a b a0 a1 a2 a3 a4 b0 b1 b2 b3 b4) (k : Nat) (hk : k < a.length + b.length + 10) :
    rawV ((twoB a b a0 a1 a2 a3 a4 b0 b1 b2 b3 b4).take k) = .error 4 := by
  have hl := two_len a b a0 a1 a2 a3 a4 b0 b1 b2 b3 b4
  have la := h.la
  have lb := h.lb
  have hk2 : ((twoB a b a0 a1 a2 a3 a4 b0 b1 b2 b3 b4).take k).length = k := by rw [List.length_take, hl]; omega
  unfold rawV
  by_cases c : k < a.length + 5
  · have := stored_short (B := (twoB a b a0 a1 a2 a3 a4 b0 b1 b2 b3 b4).take k) (q := 0) (n := a.length) (last := 0) (fun _ => (two_first h).cut k (by omega)) (fun _ => by rw [getD_take _ _ _ (by omega)]; exact h.a0) (by decide) (by omega) [] (by simp; omega)
    rw [raw_no (by rw [Nat.mul_zero] at this; exact this)]
  · have f := stored_full ((two_first h).cut k (by omega)) (by omega) [] (by simp; omega)
    rw [show 8 * 0 = 0 by rfl, show 0 + 5 + a.length = a.length + 5 by omega] at f
    obtain ⟨F, hF⟩ : ∃ F, 8 * ((twoB a b a0 a1 a2 a3 a4 b0 b1 b2 b3 b4).take k).length + 1 = F + 1 + 1 := ⟨8 * k - 1, by omega⟩
    have g := stored_short (B := (twoB a b a0 a1 a2 a3 a4 b0 b1 b2 b3 b4).take k) (q := a.length + 5) (n := b.length) (last := 1) (fun _ => (two_second h).cut k (by omega)) (fun _ => by rw [getD_take _ _ _ (by omega)]; exact (two_second h).b0) (by decide) (by omega) ([] ++ (((twoB a b a0 a1 a2 a3 a4 b0 b1 b2 b3 b4).take k).drop (0 + 5)).take a.length) (by simp; omega)
    rw [hF, raw_more f, raw_no g]
end

end Go.Proofs.YtkobcgemllcfoaaDoor.Ix
