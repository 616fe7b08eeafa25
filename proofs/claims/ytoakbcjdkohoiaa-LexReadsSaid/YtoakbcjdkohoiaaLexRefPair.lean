/-
  What the document's pair of layer 3 is: do two bytes that are the same stand at a place?
-/
import Derived.Test.YtoakbcjdkohoiaaLexRefBytes
namespace Go.Proofs.Ytoakbcjdkohoiaa
open Go.RowKit

theorem Rpair_any (s : ByteArray) (k : Nat) (w : World) (hk : k < s.size) (hs : s.size ≤ 4294967296) (q : Bool) (hq : q = ((s.data.toList.drop (k + 1)).head? == some s[k])) :
    Calls Try.prog 31 #[.string s, .int .i64 k] w fun e w' => e = .returned (.bool q) ∧ ∃ n, w' = w.drewN n := by
  have HQ := Lib.hid hq
  have i4 : IntKind.i64.wrap ((k : Int) + 1) = (k : Int) + 1 := IntWalk.i64_in _ (by omega)
  have i6 : (0 : Int) ≤ (k : Int) + 1 := by omega
  have i7 : ((k : Int) + 1).toNat = k + 1 := by omega
  clear hq
  by_cases h1 : k + 1 < s.size
  · have HD := Lib.hid (rdrop_cons s (k + 1) h1)
    have h5 : (k : Int) + 1 < (s.size : Int) := by omega
    by_cases he : s[k + 1] = s[k]
    · have HV := Lib.hid (show q = true by rw [HQ.out, HD.out, he]; simp)
      have e1 : ((s[k].toNat : Int) == (s[k + 1].toNat : Int)) = true := by rw [he]; simp
      clear he
      go_enter Try.func31, Try.ntmps31
      go_wp2_with fail
      go_quiet (fail)
      go_wp2_with fail
      go_ret
      exact ⟨ret_bool HV.out.symm, _, rfl⟩
    · have HV := Lib.hid (show q = false by rw [HQ.out, HD.out]; simpa using he)
      have e1 : ((s[k].toNat : Int) == (s[k + 1].toNat : Int)) = false := rbyte_not (fun e => he e.symm) _ rfl
      clear he
      go_enter Try.func31, Try.ntmps31
      go_wp2_with fail
      go_quiet (fail)
      go_wp2_with fail
      go_ret
      exact ⟨ret_bool HV.out.symm, _, rfl⟩
  · have HV := Lib.hid (show q = false by rw [HQ.out, rdrop_end s _ (by omega)]; rfl)
    have h5 : decide ((k : Int) + 1 < (s.size : Int)) = false := decide_eq_false (by omega)
    go_enter Try.func31, Try.ntmps31
    go_wp2_with fail
    go_quiet (fail)
    go_wp2_with fail
    go_ret
    exact ⟨ret_bool HV.out.symm, _, rfl⟩

end Go.Proofs.Ytoakbcjdkohoiaa
