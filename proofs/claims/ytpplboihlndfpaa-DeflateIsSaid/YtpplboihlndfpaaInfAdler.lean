/-
  The sum of bytes: Adler.
-/
import Derived.Test.YtpplboihlndfpaaInfBits
import Derived.Test.YtpplboihlndfpaaInfSumsMath
namespace Go.Proofs.Ytpplboihlndfpaa
open Go.RowKit Ix
set_option linter.unusedSimpArgs false
set_option linter.unusedVariables false

theorem or_u32 {c a : Nat} (hc : c < 65536) (ha : a < 65536) : bits BinOp.or IntKind.u32 ((c : Int) * 65536) (a : Int) = ((c * 65536 + a : Nat) : Int) := by
  have e : ((c : Int) * 65536) = ((c * 65536 : Nat) : Int) := by omega
  rw [e]
  show IntKind.u32.wrap ((BitVec.ofInt 32 ((c * 65536 : Nat) : Int) ||| BitVec.ofInt 32 (a : Int)).toNat : Int) = _
  rw [BitVec.ofInt_natCast, BitVec.ofInt_natCast, BitVec.toNat_or, BitVec.toNat_ofNat, BitVec.toNat_ofNat, Nat.mod_eq_of_lt (by omega), Nat.mod_eq_of_lt (by omega)]
  have := Nat.two_pow_add_eq_or_of_lt (i := 16) (b := a) (by omega) c
  rw [Nat.mul_comm c 65536, show (65536 : Nat) = 2 ^ 16 by decide, ← this]
  show ((2 ^ 16 * c + a : Nat) : Int) % 4294967296 = _
  omega

set_option maxRecDepth 100000 in
theorem Adler_any (B : List UInt8) (p : Option Addr) (c : Nat) (w : World) (h : ByR w w.heap.size p B) (hB : B.length ≤ 1099511627776) :
    Calls Try.prog 25 #[.slice p B.length c] w fun e w' => e = .returned (.int .u32 (adler B)) ∧ Kept w w' := by
  have HB := Lib.hid h
  clear h
  go_enter Try.func25, Try.ntmps25
  go_wp2_with fail
  go_loopg [3, 4, 9] (B.length + 1) (fun m x y i wr => ∃ (j a s : Nat), m = B.length + 1 - j ∧ j ≤ B.length ∧ x = .int .u32 a ∧ y = .int .u32 s ∧ i = .int .i64 j ∧ a < 65521 ∧ s < 65521 ∧ Hid (adlerGo (B.drop j) a s = adlerGo B 1 0) ∧ w = wr)
  case atStart => exact ⟨0, 1, 0, rfl, Nat.zero_le _, rfl, rfl, rfl, by decide, by decide, Lib.hid rfl, rfl⟩
  case round =>
    obtain ⟨j, a, s, hm, hj, rfl, rfl, rfl, ha, hs, HE, rfl⟩ := hrel
    by_cases hlt : j < B.length
    · obtain ⟨kb, o, hp, hkb, hc⟩ := HB.out j hlt
      subst hp
      have HS := Lib.hid (adlerGo_step B j hlt a s)
      obtain ⟨v, hv⟩ : ∃ v, v = B[j].toNat := ⟨_, rfl⟩
      have hv2 : v < 256 := by rw [hv]; exact B[j].toNat_lt
      rw [← hv] at hc HS
      clear hv
      go_wp2_with fail
      go_roundg (B.length + 1 - (j + 1))
      case measure => omega
      case rel =>
        refine ⟨j + 1, (a + v) % 65521, (s + (a + v) % 65521) % 65521, rfl, by omega, ?_, ?_, by go_num, Nat.mod_lt _ (by decide), Nat.mod_lt _ (by decide), Lib.hid (by rw [← HS.out]; exact HE.out), rfl⟩
        · go_num
        · go_num
    · obtain rfl : j = B.length := by omega
      have HR := Lib.hid (show adler B = s * 65536 + a by
        have := HE.out
        rw [List.drop_eq_nil_of_le (Nat.le_refl _)] at this
        unfold adler; rw [← this]; rfl)
      have HO := Lib.hid (or_u32 (show s < 65536 by omega) (show a < 65536 by omega))
      go_wp2_with fail
      go_ret
      exact ⟨by rw [HR.out, ← HO.out]; rfl, Kept.refl _⟩

end Go.Proofs.Ytpplboihlndfpaa
