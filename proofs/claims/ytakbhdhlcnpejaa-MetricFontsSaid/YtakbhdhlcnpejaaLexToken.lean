/-
  What package lex's tokenAt and Next answer.
-/
import Derived.Test.YtakbhdhlcnpejaaLexName
import Derived.Test.YtakbhdhlcnpejaaLexText
import Derived.Test.YtakbhdhlcnpejaaLexDigits
import Derived.Test.YtakbhdhlcnpejaaLexWord
namespace Go.Proofs.Ytakbhdhlcnpejaa
open Go.RowKit

theorem Blk.drewN {w : World} {b : Nat} {cs : Array Value} {t : TypeId} (h : Blk w b cs t) (n : Nat) : Blk (w.drewN n) b cs t := h
theorem twice_of (s : ByteArray) (k : Nat) (hk : k < s.size) : Lib.hasPrefix (s.extract (k + 1) s.size).data.toList (s.extract k (k + 1)).data.toList = ((s.data.toList.drop (k + 1)).head? == some s[k]) := by
  have h1 : (s.extract (k + 1) s.size).data.toList = s.data.toList.drop (k + 1) := by
    rw [ByteArray.data_extract]
    simp [List.take_of_length_le]
  have h2 : (s.extract k (k + 1)).data.toList = [s[k]] := by
    rw [extract_run s k 1]
    show (s.data.toList.drop k).take 1 = _
    rw [drop_cons s k hk]; rfl
  rw [h1, h2, Lib.hasPrefix]
  cases s.data.toList.drop (k + 1) with
  | nil => rfl
  | cons b r =>
    rw [List.isPrefixOf, List.isPrefixOf, Bool.and_true, List.head?_cons, Bool.eq_iff_iff]
    rw [beq_iff_eq, beq_iff_eq, Option.some.injEq]; exact eq_comm

theorem twice_any (s : ByteArray) (k : Nat) (hk : k < s.size) (w : World) :
    Calls Try.prog 35 #[.string (s.extract (k + 1) s.size), .string (s.extract k (k + 1))] w fun e w' => e = .returned (.bool ((s.data.toList.drop (k + 1)).head? == some s[k])) ∧ w' = w :=
  (Try.strings_HasPrefix _ _ w).mono fun e w' ⟨he, hw⟩ => ⟨by rw [he, twice_of s k hk], hw⟩

theorem reg_of {c : UInt8} (h0 : Lx.white c = false) (h1 : c ≠ 91) (h2 : c ≠ 93) (h3 : c ≠ 60) (h4 : c ≠ 62) (h5 : c ≠ 47) (h6 : c ≠ 40) (h7 : c ≠ 41) (h8 : c ≠ 123) (h9 : c ≠ 125) (h10 : c ≠ 37) : Lx.reg c = true := by
  have := Lx.byte_all (fun c => Lx.white c || c == 91 || c == 93 || c == 60 || c == 62 || c == 47 || c == 40 || c == 41 || c == 123 || c == 125 || c == 37 || Lx.reg c) (by kernel_rfl) c
  have e : ∀ d : UInt8, c ≠ d → (c == d) = false := fun d h => beq_eq_false_iff_ne.2 h
  rw [h0, e _ h1, e _ h2, e _ h3, e _ h4, e _ h5, e _ h6, e _ h7, e _ h8, e _ h9, e _ h10] at this
  exact this

theorem spc_stops (s : ByteArray) (k : Nat) (h : k < s.size) (e : Lx.spc false (s.data.toList.drop k) = 0) : Lx.white s[k] = false ∧ s[k] ≠ 37 := by
  rw [drop_cons s k h, Lx.spc] at e
  cases hw : Lx.white s[k]
  · refine ⟨rfl, fun h37 => ?_⟩
    rw [hw, h37] at e
    simp at e
  · rw [hw] at e; simp at e

theorem spc_rest : ∀ (c : Bool) (l : List UInt8), Lx.spc false (l.drop (Lx.spc c l)) = 0
  | c, [] => by rw [List.drop_nil]; rfl
  | true, b :: r => by
    rw [Lx.spc]
    split
    · rw [List.drop_succ_cons]; exact spc_rest true r
    · rw [List.drop_succ_cons]; exact spc_rest false r
  | false, b :: r => by
    cases hw : Lx.white b
    · by_cases h37 : (b == 37) = true
      · rw [Lx.spc, hw, if_neg (by simp), if_pos h37, List.drop_succ_cons]; exact spc_rest true r
      · rw [show Lx.spc false (b :: r) = 0 by rw [Lx.spc, hw, if_neg (by simp), if_neg h37], List.drop_zero, Lx.spc, hw, if_neg (by simp), if_neg h37]
    · rw [Lx.spc, hw, if_pos rfl, List.drop_succ_cons]; exact spc_rest false r

theorem space_fits (l : List UInt8) (a : Int) : Lx.spaceV l a ≤ l.length ∧ Lx.spc false (l.drop (Lx.spaceV l a)) = 0 := by
  unfold Lx.spaceV
  constructor
  · have := Lx.spc_le false (l.drop (min (max a 0) (l.length : Int)).toNat)
    simp at this; omega
  · rw [← List.drop_drop]; exact spc_rest _ _

end Go.Proofs.Ytakbhdhlcnpejaa
