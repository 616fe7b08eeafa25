/-
  LexWrites: any text, and any name, as a token, is what the document says.
-/
import Derived.Test.YtgijgklojlfihaaLexAwake
import Derived.Test.YtgijgklojlfihaaLexRefWrite
namespace Go.Proofs.Ytgijgklojlfihaa
open Go.RowKit

set_option maxRecDepth 100000 in
set_option maxHeartbeats 4000000 in
theorem lexWrites_any (s : ByteArray) (w : World) (hm : HasMax w) :
    Calls Try.prog 4 #[.string s] w fun e w' => e = .returned (.bool true) ∧ Kept w w' := by
  have HM := Lib.hid hm
  clear hm
  by_cases hs : 1000 < s.size
  · go_enter Try.func4, Try.ntmps4
    go_wp2_with fail
    refine (awake_any _ HM.out).mono ?_
    rintro e w1 ⟨rfl, hk1⟩
    go_wp2_with fail
    go_ret
    exact ⟨rfl, hk1⟩
  have hs' : s.size ≤ 1000 := by omega
  clear hs
  obtain ⟨q, hq⟩ : ∃ q, q = Lx.quoteV s.data.toList := ⟨_, rfl⟩
  obtain ⟨n, hn⟩ : ∃ n, n = Lx.nameV s.data.toList := ⟨_, rfl⟩
  have HQ := Lib.hid hq
  have HN := Lib.hid hn
  clear hq hn
  go_enter Try.func4, Try.ntmps4
  go_wp2_with fail
  refine (awake_any _ HM.out).mono ?_
  rintro e w1 ⟨rfl, hk1⟩
  have HK1 := Lib.hid hk1
  clear hk1
  go_wp2_with fail
  refine (Quote_any s _ (by omega)).mono ?_
  rintro e w2 ⟨rfl, hk2⟩
  rw [← HQ.out]
  have HK2 := Lib.hid (HK1.out.trans hk2)
  clear hk2
  go_wp2_with fail
  refine (RQuote_any s _ (by omega)).mono ?_
  rintro e w3 ⟨rfl, hk3⟩
  rw [← HQ.out]
  have HK3 := Lib.hid (HK2.out.trans hk3)
  clear hk3
  go_wp2_with fail
  refine (NameOf_any s _ (by omega)).mono ?_
  rintro e w4 ⟨rfl, hk4⟩
  rw [← HN.out]
  have HK4 := Lib.hid (HK3.out.trans hk4)
  clear hk4
  go_wp2_with fail
  refine (RNameOf_any s _ (by omega)).mono ?_
  rintro e w5 ⟨rfl, hk5⟩
  rw [← HN.out]
  have HK5 := Lib.hid (HK4.out.trans hk5)
  clear hk5
  go_wp2_with fail
  go_ret
  exact ⟨rfl, HK5.out⟩

end Go.Proofs.Ytgijgklojlfihaa
