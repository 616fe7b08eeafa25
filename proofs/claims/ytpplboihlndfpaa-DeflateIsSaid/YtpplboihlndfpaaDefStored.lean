/-
  Bytes as blocks in which they stand as they are.
-/
import Derived.Test.YtpplboihlndfpaaInfArgs
import Derived.Test.YtpplboihlndfpaaDefBitsMath
import Derived.Test.YtpplboihlndfpaaDefBit
namespace Go.Proofs.Ytpplboihlndfpaa
open Go.RowKit Ix Dx
set_option linter.unusedSimpArgs false
set_option linter.unusedVariables false

theorem not_int {n : Nat} (h : n < 4294967296) : bits BinOp.xor IntKind.i64 (-1) (n : Int) = -(n : Int) - 1 := by
  show IntKind.i64.wrap ((BitVec.ofInt 64 (-1) ^^^ BitVec.ofInt 64 (n : Int)).toNat : Int) = _
  have e : BitVec.ofInt 64 (-1) = BitVec.allOnes 64 := by decide
  rw [e, BitVec.allOnes_xor, BitVec.toNat_not, BitVec.ofInt_natCast, BitVec.toNat_ofNat, Nat.mod_eq_of_lt (by omega)]
  have e2 : ((2 ^ 64 - 1 - n : Nat) : Int) = 18446744073709551615 - (n : Int) := by omega
  rw [e2]
  rw [IntWalk.i64_left]
  unfold wrap64; omega
theorem lit_byR' (W : World) (l : List UInt8) : ByR (W.alloc (.cells (bytsV l).toArray 5)) (W.alloc (.cells (bytsV l).toArray 5)).heap.size (some ⟨W.heap.size, 0, none⟩) l := by
  intro i hi
  refine ⟨W.heap.size, 0, rfl, by simp, ?_⟩
  rw [Nat.zero_add, (Blk.fresh W (bytsV l).toArray 5).cell i]
  simp [bytsV, hi]
theorem u8_of {x : Nat} (h : x < 256) : ((UInt8.ofNat x).toNat : Int) = (x : Int) := by rw [UInt8.toNat_ofNat', Nat.mod_eq_of_lt (by omega)]

set_option maxRecDepth 100000 in
set_option maxHeartbeats 1000000 in
theorem appendStored_any (o b : List UInt8) (first : Nat) (hf : first < 2) (n : Nat) (hnn : n = b.length) (hn : n ≤ 65535) (ho : o.length ≤ 1073741824) {w : World} {B : Nat} {v : Value} {p : Option Addr} {c : Nat} (h : Out w B v o) (hb : ByR w B p b) (hp : p = none → n = 0 ∧ c = 0) (hB : B ≤ w.heap.size) :
    Calls Try.prog 31 #[v, .slice p n c, .int .u8 first] w fun e w' => ∃ v', e = .returned v' ∧ Out w' B v' (o ++ blkV first b) ∧ w.grownBy w' v.ownBlock := by
  obtain ⟨m1, h1⟩ : ∃ m1, m1 = n % 256 := ⟨_, rfl⟩
  obtain ⟨m2, h2⟩ : ∃ m2, m2 = n / 256 := ⟨_, rfl⟩
  obtain ⟨m3, h3⟩ : ∃ m3, m3 = 255 - n % 256 := ⟨_, rfl⟩
  obtain ⟨m4, h4⟩ : ∃ m4, m4 = 255 - n / 256 := ⟨_, rfl⟩
  have hx := not_int (n := n) (by omega)
  have hx' : bits BinOp.xor IntKind.i64 (if IntKind.i64.signed = true then -1 else 9223372036854775807) (n : Int) = -(n : Int) - 1 := hx
  have s1 : (n : Int) % 256 = (m1 : Int) := by omega
  have s2 : (n : Int) / 256 = (m2 : Int) := by omega
  have s2' : (m2 : Int) % 256 = (m2 : Int) := by omega
  have s3 : (-(n : Int) - 1) % 256 = (m3 : Int) := by omega
  have s4 : (-(n : Int) - 1) / 256 % 256 = (m4 : Int) := by omega
  have HE := Lib.hid (show blkV first b = [UInt8.ofNat first, UInt8.ofNat m1, UInt8.ofNat m2, UInt8.ofNat m3, UInt8.ofNat m4] ++ b by
    unfold blkV; rw [← hnn, h1, h2, h3, h4])
  have HC := Lib.hid (show (bytsV [UInt8.ofNat first, UInt8.ofNat m1, UInt8.ofNat m2, UInt8.ofNat m3, UInt8.ofNat m4]).toArray = #[.int .u8 (first : Int), .int .u8 (m1 : Int), .int .u8 (m2 : Int), .int .u8 (m3 : Int), .int .u8 (m4 : Int)] by
    unfold bytsV
    simp only [List.map_cons, List.map_nil]
    rw [u8_of (x := first) (by omega), u8_of (x := m1) (by omega), u8_of (x := m2) (by omega), u8_of (x := m3) (by omega), u8_of (x := m4) (by omega)])
  have KA := Lib.hid (show Kept w (w.alloc (.cells #[.int .u8 (first : Int), .int .u8 (m1 : Int), .int .u8 (m2 : Int), .int .u8 (m3 : Int), .int .u8 (m4 : Int)] 5)) from (Kept.refl w).allocO _)
  have BY := Lib.hid (lit_byR' w [UInt8.ofNat first, UInt8.ofNat m1, UInt8.ofNat m2, UInt8.ofNat m3, UInt8.ofNat m4])
  rw [HC.out] at BY
  have HO := Lib.hid (h.kept KA.out)
  have HB := Lib.hid hb
  have HOW := Lib.hid (show ∀ x, v.ownBlock = some x → x < w.heap.size from fun x e => (h.lt x e).2)
  have HNN := Lib.hid hnn
  have hlen : o.length + 5 ≤ 1099511627776 := by omega
  have hlen2 : (o ++ [UInt8.ofNat first, UInt8.ofNat m1, UInt8.ofNat m2, UInt8.ofNat m3, UInt8.ofNat m4]).length = o.length + 5 := by simp
  clear h hb h1 h2 h3 h4 hnn
  go_enter Try.func31, Try.ntmps31
  go_upto_region 3 with (at_builtin; go_loud (refine wpList_app_in rfl _ _ rfl HO.out rfl (some ⟨w.heap.size, 0, none⟩) 5 5 [UInt8.ofNat first, UInt8.ofNat m1, UInt8.ofNat m2, UInt8.ofNat m3, UInt8.ofNat m4] rfl rfl BY.out (by decide) (Nat.le_trans hB (Below.size KA.out)) hlen ?_); intro g5 cap5 w5 ho5 hg5 hat5 hl5; have O5 := Lib.hid ho5; have G5 := Lib.hid hg5; have T5 := Lib.hid hat5; clear ho5 hg5 hat5)
  have hs5 := G5.out.size
  have BB := Lib.hid (show ByR w5 w5.heap.size p b from fun i hi => by
    obtain ⟨kb, ofs, hpp, hk, hc⟩ := HB.out i hi
    refine ⟨kb, ofs, hpp, by simp at hs5; omega, ?_⟩
    rw [← hc, ← KA.out.cells.1 kb (ofs + i) (by omega)]
    exact World.cell?_of_block (G5.out.block kb (by simp; omega) (fun e => by have := (HO.out.lt kb e.symm).1; omega)))
  go_wp2_with (at_builtin; refine wpList_app_any rfl _ _ rfl O5.out rfl p n c b HNN.out rfl BB.out hp (by simp at hs5; omega) (by rw [hlen2]; omega) ?_; intro v6 w6 ho6 hg6; have O6 := Lib.hid ho6; have G6 := Lib.hid hg6; clear ho6 hg6)
  go_ret
  refine ⟨_, rfl, ?_, ?_⟩
  · rw [HE.out, ← List.append_assoc]; exact O6.out
  · refine ⟨by rw [G6.out.os, G5.out.os]; rfl, by rw [G6.out.tape, G5.out.tape]; rfl, by rw [G6.out.output, G5.out.output]; rfl, by have := G6.out.size; simp at hs5; omega, fun j hj hne => ?_⟩
    have hj5 : some j ≠ (Value.slice (some ⟨g5, 0, none⟩) (o.length + 5) cap5).ownBlock := by
      rcases T5.out with e | e
      · simp only [Value.ownBlock]; rw [← e]; exact hne
      · simp only [Value.ownBlock, Option.some.injEq, ne_eq]; simp at e; omega
    exact (G6.out.block j (by simp at hs5; omega) hj5).trans ((G5.out.block j (by simp; omega) hne).trans (KA.out.block j hj))

end Go.Proofs.Ytpplboihlndfpaa
