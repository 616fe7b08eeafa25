/-
  The two bytes ahead, and the four behind.
-/
import Derived.Test.YtpplboihlndfpaaDoorInfRaw
import Derived.Test.YtpplboihlndfpaaDoorInfAdler
namespace Go.Proofs.YtpplboihlndfpaaDoor
open Go.RowKit Ix
set_option linter.unusedSimpArgs false
set_option linter.unusedVariables false

theorem and15 (v : UInt8) : bits BinOp.and IntKind.u8 (v.toNat : Int) 15 = ((v.toNat % 16 : Nat) : Int) := by
  have key : (List.range 256).all (fun a => bits BinOp.and IntKind.u8 ((UInt8.ofNat a).toNat : Int) 15 == (((UInt8.ofNat a).toNat % 16 : Nat) : Int)) = true := by kernel_rfl
  simpa using List.all_eq_true.1 key _ (List.mem_range.2 v.toNat_lt)
theorem and32 (v : UInt8) : bits BinOp.and IntKind.u8 (v.toNat : Int) 32 = ((v.toNat / 32 % 2 * 32 : Nat) : Int) := by
  have key : (List.range 256).all (fun a => bits BinOp.and IntKind.u8 ((UInt8.ofNat a).toNat : Int) 32 == (((UInt8.ofNat a).toNat / 32 % 2 * 32 : Nat) : Int)) = true := by kernel_rfl
  simpa using List.all_eq_true.1 key _ (List.mem_range.2 v.toNat_lt)
theorem or_both {x y : Nat} (hx : x < 256) (hy : y < 256) : bits BinOp.or IntKind.i64 ((x : Int) * 256) (y : Int) = ((x * 256 + y : Nat) : Int) := by
  have e : ((x : Int) * 256) = ((x * 256 : Nat) : Int) := by omega
  rw [e, nat_or (by omega) (by omega)]
  have := Nat.two_pow_add_eq_or_of_lt (i := 8) (b := y) (by omega) x
  rw [Nat.mul_comm x 256, show (256 : Nat) = 2 ^ 8 by decide, ← this]

set_option maxRecDepth 100000 in
theorem isHead_any (x y : UInt8) (w : World) :
    Calls Tryd.prog 34 #[.int .u8 (x.toNat : Int), .int .u8 (y.toNat : Int)] w fun e w' => e = .returned (.bool (headV x y)) ∧ Kept w w' := by
  have a1 := and15 x
  have a2 := and32 y
  have a3 := or_both x.toNat_lt y.toNat_lt
  have hx := x.toNat_lt
  have hy := y.toNat_lt
  have HV := Lib.hid (show headV x y = true ↔ (x.toNat % 16 = 8 ∧ x.toNat / 16 ≤ 7 ∧ (x.toNat * 256 + y.toNat) % 31 = 0 ∧ y.toNat / 32 % 2 = 0) by
    unfold headV
    simp only [Bool.and_eq_true, beq_iff_eq, decide_eq_true_eq])
  go_enter Tryd.func34, Tryd.ntmps34
  by_cases h1 : x.toNat % 16 = 8
  · go_wp2_with fail
    all_goals
      go_ret
      refine ⟨?_, Kept.refl _⟩
      have hv := HV.out
      refine congrArg (fun z => Ending.returned (Value.bool z)) ?_
      rw [Bool.eq_iff_iff, hv]
      simp
      omega
  · go_wp2_with fail
    all_goals
      go_ret
      refine ⟨?_, Kept.refl _⟩
      have hv := HV.out
      refine congrArg (fun z => Ending.returned (Value.bool z)) ?_
      rw [Bool.eq_iff_iff, hv]
      simp
      omega

/-- Four bytes, the highest first. -/
theorem or_byte {a v : Nat} (ha : a < 16777216) (hv : v < 256) : bits BinOp.or IntKind.u32 ((a : Int) * 256) (v : Int) = ((a * 256 + v : Nat) : Int) := by
  have e : ((a : Int) * 256) = ((a * 256 : Nat) : Int) := by omega
  rw [e]
  show IntKind.u32.wrap ((BitVec.ofInt 32 ((a * 256 : Nat) : Int) ||| BitVec.ofInt 32 (v : Int)).toNat : Int) = _
  rw [BitVec.ofInt_natCast, BitVec.ofInt_natCast, BitVec.toNat_or, BitVec.toNat_ofNat, BitVec.toNat_ofNat, Nat.mod_eq_of_lt (by omega), Nat.mod_eq_of_lt (by omega)]
  have := Nat.two_pow_add_eq_or_of_lt (i := 8) (b := v) (by omega) a
  rw [Nat.mul_comm a 256, show (256 : Nat) = 2 ^ 8 by decide, ← this]
  show ((2 ^ 8 * a + v : Nat) : Int) % 4294967296 = _
  omega
def sumTo (l : List UInt8) (j : Nat) : Nat := (l.take j).foldl (fun n v => n * 256 + v.toNat) 0
theorem sumTo_succ (l : List UInt8) (j : Nat) (h : j < l.length) : sumTo l (j + 1) = sumTo l j * 256 + l[j].toNat := by
  unfold sumTo
  rw [List.take_succ_eq_append_getElem h, List.foldl_append]; rfl
theorem sumTo_lt (l : List UInt8) : ∀ j, j ≤ l.length → sumTo l j < 256 ^ j
  | 0, _ => by simp [sumTo]
  | j + 1, h => by
    have := sumTo_lt l j (by omega)
    rw [sumTo_succ l j (by omega), Nat.pow_succ]
    have := l[j].toNat_lt
    omega

set_option maxRecDepth 100000 in
theorem sumOf_any (l : List UInt8) (p : Option Addr) (c B0 : Nat) (w : World) (h : ByR w B0 p l) (h4 : 4 ≤ l.length) (hc : l.length ≤ c) :
    Calls Tryd.prog 35 #[.slice p l.length c] w fun e w' => e = .returned (.int .u32 (sumV l : Nat)) ∧ Kept w w' := by
  have HB := Lib.hid h
  obtain ⟨kb, o, hp, -, -⟩ := h 0 (by omega)
  subst hp
  clear h
  go_enter Tryd.func35, Tryd.ntmps35
  go_wp2_with fail
  go_loopg [3, 9] 5 (fun m x i wr => ∃ j : Nat, m = 5 - j ∧ j ≤ 4 ∧ x = .int .u32 (sumTo l j : Nat) ∧ i = .int .i64 j ∧ w = wr)
  case atStart => exact ⟨0, rfl, by decide, rfl, rfl, rfl⟩
  case round =>
    obtain ⟨j, hm, hj, rfl, rfl, rfl⟩ := hrel
    by_cases hlt : j < 4
    · obtain ⟨kb', o', hp', -, hcell⟩ := HB.out j (by omega)
      injection hp' with hp'
      injection hp' with e1 e2
      subst e1 e2
      have hs := sumTo_lt l j (by omega)
      have hp3 : 256 ^ j ≤ 256 ^ 3 := Nat.pow_le_pow_right (by decide) (by omega)
      have HS := Lib.hid (sumTo_succ l j (by omega))
      have hv := (l[j]'(by omega)).toNat_lt
      obtain ⟨s, hse⟩ : ∃ s, s = sumTo l j := ⟨_, rfl⟩
      obtain ⟨v, hve⟩ : ∃ v, v = (l[j]'(by omega)).toNat := ⟨_, rfl⟩
      rw [← hse] at hs HS ⊢
      rw [← hve] at hv HS hcell
      have ho := or_byte (a := s) (v := v) (by omega) (by omega)
      clear hse hve
      go_wp2_with fail
      go_roundg (5 - (j + 1))
      case measure => omega
      case rel => exact ⟨j + 1, rfl, by omega, by rw [HS.out]; go_num, by go_num, rfl⟩
    · obtain rfl : j = 4 := by omega
      go_wp2_with fail
      go_ret
      exact ⟨rfl, Kept.refl _⟩

end Go.Proofs.YtpplboihlndfpaaDoor
