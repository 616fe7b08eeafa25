/-
  Plain texts behind the law FixReads: the digits of thousandths, one behind the other.
-/
import Derived.Test.YtoakbcjdkohoiaaFixBackMath
import Derived.Test.YtoakbcjdkohoiaaFixRefMath
namespace Go.Proofs.Ytoakbcjdkohoiaa.Fx

/-- What is left of thousandths behind k digits, and the digits so far: none behind the last that counts. -/
def remT (r : Int) : Nat → Int
  | 0 => r
  | 1 => r % 100
  | 2 => r % 100 % 10
  | _ => 0
def digT (r : Int) : Nat → List UInt8
  | 0 => []
  | 1 => Lib.decDigits (r / 100).toNat
  | 2 => if 0 < r % 100 then Lib.decDigits (r / 100).toNat ++ Lib.decDigits (r % 100 / 10).toNat else Lib.decDigits (r / 100).toNat
  | _ => if 0 < r % 100 % 10 then (if 0 < r % 100 then Lib.decDigits (r / 100).toNat ++ Lib.decDigits (r % 100 / 10).toNat else Lib.decDigits (r / 100).toNat) ++ Lib.decDigits (r % 100 % 10).toNat
      else (if 0 < r % 100 then Lib.decDigits (r / 100).toNat ++ Lib.decDigits (r % 100 / 10).toNat else Lib.decDigits (r / 100).toNat)

theorem trim_three : ∀ a b c : Fin 10, (a.val ≠ 0 ∨ b.val ≠ 0 ∨ c.val ≠ 0) → Lib.trimRightB [UInt8.ofNat (48 + a.val), UInt8.ofNat (48 + b.val), UInt8.ofNat (48 + c.val)] 48 =
    [UInt8.ofNat (48 + a.val)] ++ (if 0 < 10 * b.val + c.val then [UInt8.ofNat (48 + b.val)] else []) ++ (if 0 < c.val then [UInt8.ofNat (48 + c.val)] else []) := by decide +kernel

theorem digT_three {r : Int} (h0 : 0 < r) (h1 : r ≤ 999) : digT r 3 = trimT (Lib.itoa (1000 + r)) := by
  obtain ⟨k, rfl⟩ : ∃ k : Nat, r = k := ⟨r.toNat, by omega⟩
  unfold trimT
  rw [itoa_four (by omega) h1, Int.toNat_natCast, List.drop_succ_cons, List.drop_zero]
  have h := trim_three ⟨k / 100, by omega⟩ ⟨k / 10 % 10, by omega⟩ ⟨k % 10, by omega⟩ (by simp only; omega)
  simp only at h
  rw [h]
  have e1 : ((k : Int) / 100).toNat = k / 100 := by omega
  have e2 : ((k : Int) % 100 / 10).toNat = k / 10 % 10 := by omega
  have e3 : ((k : Int) % 100 % 10).toNat = k % 10 := by omega
  show (if 0 < (k : Int) % 100 % 10 then _ else _) = _
  rw [e1, e2, e3, Lib.decDigits_one (show k / 100 < 10 by omega), Lib.decDigits_one (show k / 10 % 10 < 10 by omega), Lib.decDigits_one (show k % 10 < 10 by omega)]
  by_cases c1 : 0 < (k : Int) % 100
  · rw [if_pos c1, if_pos (show 0 < 10 * (k / 10 % 10) + k % 10 by omega)]
    by_cases c2 : 0 < (k : Int) % 100 % 10
    · rw [if_pos c2, if_pos (show 0 < k % 10 by omega)]
    · rw [if_neg c2, if_neg (show ¬ 0 < k % 10 by omega), List.append_nil]
  · rw [if_neg c1, if_neg (show ¬ 0 < 10 * (k / 10 % 10) + k % 10 by omega), if_neg (show ¬ 0 < (k : Int) % 100 % 10 by omega), if_neg (show ¬ 0 < k % 10 by omega), List.append_nil, List.append_nil]

theorem dec_len {u : Nat} (h : u < 10000000) : 1 ≤ (Lib.decDigits u).length ∧ (Lib.decDigits u).length ≤ 7 := by
  rw [Lib.decDigits_length]
  exact ⟨Lib.nDigits_pos u, nDigits_le 6 u (by omega)⟩
theorem dec_one_len {u : Nat} (h : u < 10) : (Lib.decDigits u).length = 1 := by rw [Lib.decDigits_one h]; rfl
theorem digT_len {r : Int} (h0 : 0 ≤ r) (h1 : r ≤ 999) (k : Nat) : (digT r k).length ≤ 3 := by
  have e1 := dec_one_len (u := (r / 100).toNat) (by omega)
  have e2 := dec_one_len (u := (r % 100 / 10).toNat) (by omega)
  have e3 := dec_one_len (u := (r % 100 % 10).toNat) (by omega)
  match k with
  | 0 => simp [digT]
  | 1 => show (Lib.decDigits _).length ≤ 3; omega
  | 2 => show (if _ then _ else _ : List UInt8).length ≤ 3; split <;> (try rw [List.length_append]) <;> omega
  | n + 3 =>
    show (if _ then _ else _ : List UInt8).length ≤ 3
    split <;> split <;> (try rw [List.length_append]) <;> (try rw [List.length_append]) <;> omega

theorem ten_piece : ∀ i : Fin 10, (⟨#[48, 49, 50, 51, 52, 53, 54, 55, 56, 57]⟩ : ByteArray).extract i.val (i.val + 1) = ⟨#[UInt8.ofNat (48 + i.val)]⟩ := by decide +kernel

end Go.Proofs.Ytoakbcjdkohoiaa.Fx
