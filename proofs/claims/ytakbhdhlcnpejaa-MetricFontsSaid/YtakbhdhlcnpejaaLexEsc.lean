/-
  What package lex's number8 and appendEscaped answer: what a backslash stands for.
-/
import Derived.Test.YtakbhdhlcnpejaaLexW1
namespace Go.Proofs.Ytakbhdhlcnpejaa
open Go.RowKit

theorem oct_step {u : Nat} {c : UInt8} (hu : u < 64) (hc : Lx.isOct c = true) :
    bits BinOp.or IntKind.u8 ((u : Int) * 8 % 256) ((c.toNat : Int) - 48) = (((8 * u + (c.toNat - 48)) % 256 : Nat) : Int) := by
  have key : (List.range 64).all (fun a => (List.range 8).all fun b => bits BinOp.or IntKind.u8 ((a : Int) * 8 % 256) (b : Int) == (((8 * a + b) % 256 : Nat) : Int)) = true := by kernel_rfl
  have h48 : 48 ≤ c.toNat ∧ c.toNat ≤ 55 := by simpa [Lx.isOct] using hc
  have h1 := List.all_eq_true.1 (List.all_eq_true.1 key u (List.mem_range.2 hu)) (c.toNat - 48) (List.mem_range.2 (by omega))
  have h2 : ((c.toNat - 48 : Nat) : Int) = (c.toNat : Int) - 48 := by omega
  rw [h2] at h1
  simpa using h1

theorem ret_pair {v : Value} {a b : Value} (h : a = b) : Ending.returned (.tuple #[v, a]) = .returned (.tuple #[v, b]) := by rw [h]

end Go.Proofs.Ytakbhdhlcnpejaa
