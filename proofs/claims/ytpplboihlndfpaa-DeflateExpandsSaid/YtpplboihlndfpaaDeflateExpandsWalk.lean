/-
  What any tokens are, as bytes.
-/
import Derived.Test.YtpplboihlndfpaaDefAwake
import Derived.Test.YtpplboihlndfpaaDefArgs
import Derived.Test.YtpplboihlndfpaaDefRefExpand
namespace Go.Proofs.Ytpplboihlndfpaa
open Go.RowKit Ix Dx
set_option linter.unusedSimpArgs false
set_option linter.unusedVariables false

def errOf : Except Int (List UInt8) → Int
  | .error k => k
  | .ok _ => 0
def outOf : Except Int (List UInt8) → List UInt8
  | .error _ => []
  | .ok o => o
/-- What came out: bytes of the call's own, and an error. -/
theorem ExpA.see {w w' : World} {r : Except Int (List UInt8)} {e : Ending} (h : ExpA w r e w') : ∃ v, e = .returned (.tuple #[v, .int .i64 (errOf r)]) ∧ Out w' w.heap.size v (outOf r) ∧ Kept w w' := by
  obtain ⟨hk, hr⟩ := h
  cases r with
  | error k => exact ⟨_, hr, World.ownsRow_nil _ _ _ _, hk⟩
  | ok o =>
    obtain ⟨v, he, ho⟩ := hr
    exact ⟨v, he, ho, hk⟩

set_option maxRecDepth 100000 in
set_option maxHeartbeats 4000000 in
theorem DeflateExpands_walk (v : Value) (l : List Tok) (w : World) (h : TokArg w v l) :
    Calls Try.prog 4 #[v] w fun e w' => e = .returned (.bool true) ∧ Kept w w' := by
  obtain ⟨p, c, rfl, hb, hlc, hlm⟩ := h
  have HB := Lib.hid hb
  have AW := Lib.hid (awake7_any w)
  clear hb
  by_cases hbig : 100 < l.length
  · have i1 : (100 : Int) < (l.length : Int) := by omega
    go_enter Try.func4, Try.ntmps4
    go_wp2_with fail
    (with_reducible refine AW.out.mono ?_)
    rintro e w1 ⟨rfl, hk1⟩
    have K1 := Lib.hid hk1
    clear hk1
    go_wp2_with fail
    go_ret
    exact ⟨rfl, K1.out⟩
  have i1 : ¬ (100 : Int) < (l.length : Int) := by omega
  have EX := Lib.hid (fun w' (k : Kept w w') => Expand_any l p c w' ((HB.out.keep (Nat.le_refl _) k).mono (Below.size k)) (by omega))
  have TH := Lib.hid (fun w' (k : Kept w w') => theirs_any l p c w' ((HB.out.keep (Nat.le_refl _) k).mono (Below.size k)) (by omega))
  have RX := Lib.hid (fun w' B q d (h : RToks w' B (.slice q l.length d) l) => refExpand_any l q d w' h.tokR (by omega))
  obtain ⟨r, hr⟩ : ∃ r, r = expandV l := ⟨_, rfl⟩
  rw [← hr] at EX RX
  clear hr
  go_enter Try.func4, Try.ntmps4
  go_wp2_with fail
  (with_reducible refine AW.out.mono ?_)
  rintro e w1 ⟨rfl, hk1⟩
  have K1 := Lib.hid hk1
  clear hk1
  go_wp2_with fail
  (with_reducible refine (EX.out _ K1.out).mono ?_)
  rintro e w2 h2
  obtain ⟨v2, rfl, ho2, hk2⟩ := h2.see
  have K2 := Lib.hid (K1.out.trans hk2)
  have O2 := Lib.hid ho2
  clear h2 hk2 ho2
  go_wp2_with fail
  (with_reducible refine (TH.out _ K2.out).mono ?_)
  rintro e w3 ⟨v3, rfl, ht3, hk3⟩
  obtain ⟨q, d, rfl, -, -⟩ := ht3.shape
  have K3 := Lib.hid (K2.out.trans hk3)
  have T3 := Lib.hid ht3
  have K23 := Lib.hid hk3
  clear ht3 hk3
  go_wp2_with fail
  (with_reducible refine (RX.out _ _ _ _ T3.out).mono ?_)
  rintro e w4 h4
  obtain ⟨v4, rfl, ho4, hk4⟩ := h4.see
  have K4 := Lib.hid (K3.out.trans hk4)
  have s4 := ho4.stringD
  have s2 := (O2.out.kept (K23.out.trans hk4)).stringD
  clear h4 hk4 ho4
  go_wp2_with fail
  go_ret
  exact ⟨rfl, K4.out⟩

end Go.Proofs.Ytpplboihlndfpaa
