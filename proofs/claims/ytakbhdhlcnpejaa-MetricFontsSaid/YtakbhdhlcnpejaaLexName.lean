/-
  What package lex's nameToken answers: the Name behind its sign.
-/
import Derived.Test.YtakbhdhlcnpejaaLexW1
namespace Go.Proofs.Ytakbhdhlcnpejaa
open Go.RowKit

theorem hexV_lt {c : UInt8} (h : Lx.isHex c = true) : (Lx.hexV c).toNat < 16 := by
  have := Lx.byte_all (fun c => !Lx.isHex c || decide ((Lx.hexV c).toNat < 16)) (by kernel_rfl) c
  rw [h] at this; simpa using this
theorem hex_two {c d : UInt8} (hc : Lx.isHex c = true) (hd : Lx.isHex d = true) :
    bits BinOp.or IntKind.u8 (((Lx.hexV c).toNat : Int) * 16 % 256) ((Lx.hexV d).toNat : Int) = ((Lx.hexV c <<< 4 ||| Lx.hexV d).toNat : Int) := by
  have key : (List.range 16).all (fun a => (List.range 16).all fun b => bits BinOp.or IntKind.u8 (((UInt8.ofNat a).toNat : Int) * 16 % 256) ((UInt8.ofNat b).toNat : Int) == ((UInt8.ofNat a <<< 4 ||| UInt8.ofNat b).toNat : Int)) = true := by kernel_rfl
  have h1 := List.all_eq_true.1 (List.all_eq_true.1 key _ (List.mem_range.2 (hexV_lt hc))) _ (List.mem_range.2 (hexV_lt hd))
  simpa using h1

end Go.Proofs.Ytakbhdhlcnpejaa
