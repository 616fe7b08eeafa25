/-
  Bits that are taken from bytes: want, bit, number, leaveRest, wholeByte, begun.
-/
import Derived.Test.YtpplboihlndfpaaHas
import Derived.Test.YtpplboihlndfpaaInfMath
import Derived.Deep.LoopGhost
import Derived.Test.YtpplboihlndfpaaFixWalks
import Derived.Deep.QuietTactic
import Derived.BigQuiet
namespace Go.Proofs.Ytpplboihlndfpaa
open Go.RowKit Ix
set_option linter.unusedSimpArgs false
set_option linter.unusedVariables false

/-- What a panic with an error carries. -/
abbrev thrown (k : Int) : List PanicEntry := [{ v := .iface 24 (.int .i64 k), recovered := false }]

/-- Where bytes lie that came in. -/
def ByR (w : World) (B0 : Nat) (p : Option Addr) (B : List UInt8) : Prop := ∀ i (h : i < B.length), ∃ k o, p = some ⟨k, o, none⟩ ∧ k < B0 ∧ w.cell? ⟨k, o + i, none⟩ = some (.int .u8 (B[i].toNat : Int))

/-- A panic with an error. -/
theorem run_thrown (n : Int) (w : World) : (Instr.panic (.iface 24 (.int .i64 n))).run Try.prog w = .halt (.panic (.iface 24 (.int .i64 n))) w := rfl

/-- One bit of a byte, as the walk spells it. -/
theorem byte_bit (v : UInt8) (k : Nat) (hk : k < 8) : bits BinOp.and IntKind.u8 ((v.toNat : Int) / 2 ^ k) 1 = ((v.toNat / 2 ^ k % 2 : Nat) : Int) := by
  have key : (List.range 256).all (fun a => (List.range 8).all fun k => bits BinOp.and IntKind.u8 (((UInt8.ofNat a).toNat : Int) / 2 ^ k) 1 == (((UInt8.ofNat a).toNat / 2 ^ k % 2 : Nat) : Int)) = true := by kernel_rfl
  have h1 := List.all_eq_true.1 (List.all_eq_true.1 key _ (List.mem_range.2 v.toNat_lt)) _ (List.mem_range.2 hk)
  simpa using h1

theorem gbR (w : World) (r : Option Nat) : w.grownBy w r := ⟨rfl, rfl, rfl, Nat.le_refl _, fun _ _ _ => rfl⟩
theorem gbT {a b c : World} {r : Option Nat} (h : a.grownBy b r) (k : b.grownBy c r) : a.grownBy c r :=
  ⟨k.os.trans h.os, k.tape.trans h.tape, k.output.trans h.output, Nat.le_trans h.size k.size, fun j hj hn => (k.block j (Nat.lt_of_lt_of_le hj h.size) hn).trans (h.block j hj hn)⟩
theorem gbS (w : World) (k o : Nat) (v : Value) : w.grownBy (w.setCell ⟨k, o, none⟩ v) (some k) := by
  refine ⟨rfl, rfl, rfl, by simp, fun j _ hn => Below.heap_setCell w ⟨k, o, none⟩ v j ?_⟩
  intro h; exact hn (by rw [h])
theorem gbK {w w' : World} (k : Kept w w') (r : Option Nat) : w.grownBy w' r := ⟨k.os, k.tape, k.output, k.size, fun j hj _ => k.block j hj⟩
theorem gbN {a b : World} {r : Option Nat} (h : a.grownBy b r) (n : Nat) : a.grownBy (b.drewN n) r := ⟨h.os, h.tape, h.output, h.size, h.block⟩

theorem bit_val (B : List UInt8) (t : Nat) (h : t / 8 < B.length) : (B[t / 8].toNat : Int) / 2 ^ (t % 8) % 2 = (bitAt B t : Int) := by
  unfold bitAt
  rw [show B.getD (t / 8) 0 = B[t / 8] by simp [List.getD, h]]
  simp

theorem nat_or {x y : Nat} (hx : x < 4294967296) (hy : y < 4294967296) : bits BinOp.or IntKind.i64 (x : Int) (y : Int) = ((x ||| y : Nat) : Int) := by
  show IntKind.i64.wrap ((BitVec.ofInt 64 (x : Int) ||| BitVec.ofInt 64 (y : Int)).toNat : Int) = _
  rw [BitVec.ofInt_natCast, BitVec.ofInt_natCast, BitVec.toNat_or, BitVec.toNat_ofNat, BitVec.toNat_ofNat, Nat.mod_eq_of_lt (by omega), Nat.mod_eq_of_lt (by omega)]
  have : x ||| y < 2 ^ 32 := Nat.or_lt_two_pow hx hy
  exact IntWalk.i64_in _ (by omega)
theorem shl_nat {u j : Nat} (hu : u < 65536) (hj : j ≤ 16) : wrap64 ((u : Int) * 2 ^ j) = ((u * 2 ^ j : Nat) : Int) ∧ u * 2 ^ j < 4294967296 := by
  have h1 : 2 ^ j ≤ 2 ^ 16 := Nat.pow_le_pow_right (by decide) hj
  have h2 : u * 2 ^ j ≤ 65535 * 65536 := Nat.mul_le_mul (by omega) h1
  have e : ((u : Int) * 2 ^ j) = ((u * 2 ^ j : Nat) : Int) := by simp
  rw [e]
  generalize u * 2 ^ j = x at h2
  refine ⟨?_, by omega⟩
  unfold wrap64; omega
theorem or_bit {v u j : Nat} (hv : v < 2 ^ j) (hu : u < 2) (hj : j ≤ 16) : bits BinOp.or IntKind.i64 (v : Int) (wrap64 ((u : Int) * 2 ^ j)) = ((v + u * 2 ^ j : Nat) : Int) := by
  obtain ⟨e, hl⟩ := shl_nat (u := u) (by omega) hj
  have h1 : 2 ^ j ≤ 2 ^ 16 := Nat.pow_le_pow_right (by decide) hj
  rw [e, nat_or (by omega) hl]
  have := Nat.two_pow_add_eq_or_of_lt hv u
  rw [Nat.or_comm, Nat.mul_comm u, ← this, Nat.add_comm]

end Go.Proofs.Ytpplboihlndfpaa
