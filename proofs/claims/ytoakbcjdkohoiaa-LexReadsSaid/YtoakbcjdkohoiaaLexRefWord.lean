/-
  What the document's word of layer 3 is: a Word, or a Number.
-/
import Derived.Test.YtoakbcjdkohoiaaLexRefText
import Derived.Test.YtoakbcjdkohoiaaLexWord
namespace Go.Proofs.Ytoakbcjdkohoiaa
open Go.RowKit

theorem numB_no {c : UInt8} (h : Lx.numB c = false) : c ≠ 43 ∧ c ≠ 45 ∧ c ≠ 46 ∧ (c.toNat < 48 ∨ (48 ≤ c.toNat ∧ 57 < c.toNat)) := by
  have := Lx.byte_all (fun c => Lx.numB c || (c != 43 && c != 45 && c != 46 && (decide (c.toNat < 48) || (decide (48 ≤ c.toNat) && decide (57 < c.toNat))))) (by kernel_rfl) c
  rw [h] at this
  simpa [and_assoc] using this

set_option maxRecDepth 100000 in
set_option maxHeartbeats 4000000 in
theorem Rword_plain (s : ByteArray) (k : Nat) (w : World) (hk : k < s.size) (hs : s.size ≤ 4294967295) (hb : Lx.numB s[k] = false) (n : Nat) (hn : n = Lx.tw Lx.reg (s.data.toList.drop k)) (run : List UInt8) (hrun : run = (s.data.toList.drop k).take n) :
    Calls Try.prog 35 #[.string s, .int .i64 k] w fun e w' => e = .returned (.tuple #[.agg #[.int .i64 8, .int .i64 0, .string ⟨run.toArray⟩, .bool false, .int .i64 k, .int .i64 (k + n : Nat)], .int .i64 0]) ∧ Kept w w' := by
  have hnl : k + n ≤ s.size := by
    have := Lx.tw_le Lx.reg (s.data.toList.drop k)
    rw [← hn] at this; simp at this; omega
  have hx := extract_run s k n
  rw [← hrun] at hx
  have HN := Lib.hid hn
  obtain ⟨h43, h45, h46, hd⟩ := numB_no hb
  have e43 := rbyte_not h43 43 rfl
  have e45 := rbyte_not h45 45 rfl
  have e46 := rbyte_not h46 46 rfl
  have b43 : ((s[k].toNat : Int) != 43) = true := by simp only [bne, e43]; rfl
  have b45 : ((s[k].toNat : Int) != 45) = true := by simp only [bne, e45]; rfl
  have b46 : ((s[k].toNat : Int) != 46) = true := by simp only [bne, e46]; rfl
  clear h43 h45 h46 hn hrun hb
  rcases hd with hl | ⟨hl, hl'⟩
  all_goals
    go_enter Try.func35, Try.ntmps35
    go_wp2_with fail
    (with_reducible refine (Rrun_any s k _ (by omega) (by omega)).mono ?_)
    rintro e w1 ⟨rfl, rfl⟩
    rw [← HN.out]
    go_wp2_with fail
    obtain ⟨r0, r1, r2, r3, r4, r5⟩ := ((Blk.fresh w #[.int .i64 8, .int .i64 0, .string ⟨run.toArray⟩, .bool false, .int .i64 k, .int .i64 (k + n)] 29).alloc (.cells #[.int .i64 8, .int .i64 0, .string ⟨run.toArray⟩, .bool false, .int .i64 k, .int .i64 (k + n)] 29)).cells6
    refine bodyPost_ret (v := .tuple #[.agg #[.int .i64 8, .int .i64 0, .string ⟨run.toArray⟩, .bool false, .int .i64 k, .int .i64 (k + n)], .int .i64 0]) ?_ rfl ⟨by first | done | rfl | go_num, ((Kept.refl w).alloc _ _).alloc _ _⟩
    simp [results, Try.results35, go_sem, r0, r1, r2, r3, r4, r5]

end Go.Proofs.Ytoakbcjdkohoiaa
