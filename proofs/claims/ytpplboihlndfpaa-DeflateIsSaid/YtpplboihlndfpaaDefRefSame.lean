/-
  The reference's Same: tokens that are the same are told so.
-/
import Derived.Test.YtpplboihlndfpaaDefRefTok
import Derived.BigQuiet
namespace Go.Proofs.Ytpplboihlndfpaa
open Go.RowKit Ix Dx
set_option linter.unusedSimpArgs false
set_option linter.unusedVariables false

set_option maxRecDepth 100000 in
set_option maxHeartbeats 1000000 in
theorem refSame_any (l : List Tok) (p q : Option Addr) (c d : Nat) (w : World) (h : TokR w w.heap.size p l) (h2 : TokR w w.heap.size q l) (hB : l.length ≤ 1099511627776) :
    Calls Try.prog 13 #[.slice p l.length c, .slice q l.length d] w fun e w' => e = .returned (.bool true) ∧ Kept w w' := by
  have HP := Lib.hid h
  have HQ := Lib.hid h2
  clear h h2
  go_enter Try.func13, Try.ntmps13
  go_wp2_with fail
  go_loopg [5] l.length (fun m y wr => ∃ (j : Nat), m = l.length - j ∧ j ≤ l.length ∧ y = .int .i64 j ∧ Kept w wr)
  case atStart => exact ⟨0, rfl, Nat.zero_le _, rfl, Kept.refl w⟩
  case round =>
    obtain ⟨j, hm, hj, rfl, hk⟩ := hrel
    have HK := Lib.hid hk
    clear hk
    by_cases hlt : j < l.length
    · have j1 : (j : Int) < (l.length : Int) := by omega
      obtain ⟨kb, o, hp, hkb, c0, c1, c2⟩ := (HP.out.keep (Nat.le_refl _) HK.out) j hlt
      obtain ⟨kq, oq, hq, hkq, d0, d1, d2⟩ := (HQ.out.keep (Nat.le_refl _) HK.out) j hlt
      subst hp hq
      obtain ⟨t, ht⟩ : ∃ t, t = l[j] := ⟨_, rfl⟩
      rw [← ht] at c0 c1 c2 d0 d1 d2
      have z0 : ((t.lit.toNat : Int) != (t.lit.toNat : Int)) = false := bne_self_eq_false _
      have z1 : (t.len != t.len) = false := bne_self_eq_false _
      have z2 : (t.dist != t.dist) = false := bne_self_eq_false _
      clear ht
      go_wp2_with fail
      go_quiet (fail)
      go_wp2_with fail
      go_roundg (l.length - (j + 1))
      case measure => omega
      case rel => exact ⟨j + 1, rfl, by omega, by go_num, HK.out.drewN _⟩
    · obtain rfl : j = l.length := by omega
      go_wp2_with fail
      go_ret
      exact ⟨rfl, HK.out⟩

end Go.Proofs.Ytpplboihlndfpaa
