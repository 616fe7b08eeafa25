/-
  The walk of the law FixReads.
-/
import Derived.Test.YtikkpfaeenekbaaDoorFixAwake
import Derived.Test.YtikkpfaeenekbaaDoorFixNearWalk
import Derived.Test.YtikkpfaeenekbaaDoorFixRefPrint
import Derived.Test.YtikkpfaeenekbaaDoorFixRefParse
namespace Go.Proofs.YtikkpfaeenekbaaDoor
open Go.RowKit

set_option maxHeartbeats 1000000 in
theorem FixReads_long (l : List UInt8) (f n : Int) (w : World) (hf : Fine w) (hl : 1000 < l.length) (hl' : l.length ≤ 9223372036854775807) :
    Calls Tryd.prog 3 #[.string ⟨l.toArray⟩, .int .i64 f, .int .i64 n] w fun e w' => e = .returned (.bool true) ∧ Kept w w' := by
  go_enter Tryd.func3, Tryd.ntmps3
  go_wp2_with fail
  refine (awake_any _ hf).mono ?_
  rintro e w1 ⟨rfl, k1⟩
  go_wp2_with fail
  go_ret
  exact ⟨rfl, k1⟩

set_option maxHeartbeats 1000000 in
theorem FixReads_short (l : List UInt8) (f n : Int) (w : World) (hf : Fine w) (hl : l.length ≤ 1000) (hn : -9223372036854775808 ≤ n) (hn' : n ≤ 9223372036854775807) :
    Calls Tryd.prog 3 #[.string ⟨l.toArray⟩, .int .i64 f, .int .i64 n] w fun e w' => e = .returned (.bool true) ∧ Kept w w' := by
  have hs0 : Fx.saneB 0 = true := by decide
  go_enter Tryd.func3, Tryd.ntmps3
  go_wp2_with fail
  refine (awake_any _ hf).mono ?_
  rintro e w1 ⟨rfl, k1⟩
  go_wp2_with fail
  refine (Parse_any l _ (by omega) (hf.kept k1)).mono ?_
  rintro e w2 ⟨rfl, k2⟩
  go_wp2_with fail
  refine (RParse_any l _ (by omega)).mono ?_
  rintro e w3 ⟨rfl, k3⟩
  go_wp2_with fail
  refine (Int_any n _ hn hn').mono ?_
  rintro e w4 ⟨rfl, k4⟩
  go_wp2_with fail
  refine (RInt_any n _ hn hn').mono ?_
  rintro e w' ⟨rfl, rfl⟩
  have K4 := Lib.hid (((k1.trans k2).trans k3).trans k4)
  clear k1 k2 k3 k4
  go_wp2_with fail
  refine (Print_any f _ (hf.kept K4.out)).mono ?_
  rintro e w5 ⟨rfl, k5⟩
  go_wp2_with fail
  refine (RPrint_any f _).mono ?_
  rintro e w6 ⟨rfl, k6⟩
  go_wp2_with fail
  refine (sane_kept2 f 0 _).mono ?_
  rintro e w7 ⟨rfl, k7⟩
  go_wp2_with fail
  refine (RMay_any f _).mono ?_
  rintro e w' ⟨rfl, rfl⟩
  go_wp2_with fail
  go_ret
  exact ⟨rfl, ((K4.out.trans k5).trans k6).trans k7⟩

theorem wf_bd {n : Int} (h : (Lit.int .i64 n).wf = true) : -9223372036854775808 ≤ n ∧ n ≤ 9223372036854775807 := by
  have e0 : IntKind.i64.min = -9223372036854775808 := by decide
  have e1 : IntKind.i64.max = 9223372036854775807 := by decide
  simp [Lit.wf] at h
  omega

theorem FixReads_walk (s : ByteArray) (f n : Int) (w : World) (hf : Fine w) (hs : s.size ≤ maxLen) (_ : (Lit.int .i64 f).wf = true) (hn : (Lit.int .i64 n).wf = true) :
    Calls Tryd.prog 3 #[.string s, .int .i64 f, .int .i64 n] w fun e w' => e = .returned (.bool true) ∧ Kept w w' := by
  obtain ⟨⟨l⟩⟩ := s
  have hl : l.length ≤ 9223372036854775807 := hs
  obtain ⟨h0, h1⟩ := wf_bd hn
  by_cases h : 1000 < l.length
  · exact FixReads_long l f n w hf h hl
  · exact FixReads_short l f n w hf (by omega) h0 h1

end Go.Proofs.YtikkpfaeenekbaaDoor
