/-
  Which tokens any bytes are, and which blocks, is what the document says.
-/
import Derived.Test.YtpplboihlndfpaaDefAwake
import Derived.Test.YtpplboihlndfpaaDefRefZlib
import Derived.Test.YtpplboihlndfpaaDefRefSame
namespace Go.Proofs.Ytpplboihlndfpaa
open Go.RowKit Ix Dx
set_option linter.unusedSimpArgs false
set_option linter.unusedVariables false

def dErr : Except Int (List UInt8) → Int
  | .error k => k
  | .ok _ => 0
def dOut : Except Int (List UInt8) → List UInt8
  | .error _ => []
  | .ok o => o
/-- What came out: bytes of the call's own, and an error. -/
theorem DRawA.sees {w w' : World} {r : Except Int (List UInt8)} {e : Ending} (h : DRawA w r e w') : ∃ v, e = .returned (.tuple #[v, .int .i64 (dErr r)]) ∧ Out w' w.heap.size v (dOut r) ∧ Kept w w' := by
  obtain ⟨hk, hr⟩ := h
  cases r with
  | error k => exact ⟨_, hr, World.ownsRow_nil _ _ _ _, hk⟩
  | ok o =>
    obtain ⟨v, he, ho⟩ := hr
    exact ⟨v, he, ho, hk⟩

set_option maxRecDepth 100000 in
set_option maxHeartbeats 4000000 in
theorem DeflateIs_walk (v : Value) (b : List UInt8) (kind : Int) (w : World) (h : ByArg w v b) (hk : -9223372036854775808 ≤ kind ∧ kind ≤ 9223372036854775807) :
    Calls Try.prog 3 #[v, .int .i64 kind] w fun e w' => e = .returned (.bool true) ∧ Kept w w' := by
  obtain ⟨p, c, rfl, hb, hlc, hlm, hpn⟩ := h
  have HB := Lib.hid hb
  have HPN := Lib.hid hpn
  have AW := Lib.hid (awake7_any w)
  clear hb hpn
  by_cases hbig : 500 < b.length
  · have i1 : (500 : Int) < (b.length : Int) := by omega
    go_enter Try.func3, Try.ntmps3
    go_wp2_with fail
    (with_reducible refine AW.out.mono ?_)
    rintro e w1 ⟨rfl, hk1⟩
    have K1 := Lib.hid hk1
    clear hk1
    go_wp2_with fail
    go_ret
    exact ⟨rfl, K1.out⟩
  have i1 : ¬ (500 : Int) < (b.length : Int) := by omega
  have BR := Lib.hid (fun w' (k : Kept w w') => (show ByR w' w'.heap.size p b from fun i hi => by
    obtain ⟨kb, o, h1, h2, h3⟩ := (HB.out.keep (Nat.le_refl _) k) i hi
    exact ⟨kb, o, h1, by have := Below.size k; omega, h3⟩))
  have RW := Lib.hid (fun w' (k : Kept w w') => defRaw_any b kind p c w' (BR.out w' k) hlc HPN.out (by omega) hk)
  have RR := Lib.hid (fun w' (k : Kept w w') => refRaw_any b kind p c w' (BR.out w' k) hlc HPN.out (by omega) hk)
  have ZL := Lib.hid (fun w' (k : Kept w w') => defZlib_any b kind p c w' (BR.out w' k) hlc HPN.out (by omega) hk)
  have ZR := Lib.hid (fun w' (k : Kept w w') => refZlib_any b kind p c w' (BR.out w' k) hlc HPN.out (by omega) hk)
  have TK := Lib.hid (fun w' (k : Kept w w') => Tokens_any b p c w' (BR.out w' k) hlc (by omega))
  have RT := Lib.hid (fun w' (k : Kept w w') => refTokens_any b p c w' (BR.out w' k) (by omega))
  have htl := tokens_len b
  have hl5 : (tokens b).length ≤ 500 := by omega
  obtain ⟨l, hl⟩ : ∃ l, l = tokens b := ⟨_, rfl⟩
  rw [← hl] at TK RT hl5
  obtain ⟨r, hr⟩ : ∃ r, r = rawZ b kind := ⟨_, rfl⟩
  rw [← hr] at RW RR
  obtain ⟨z, hz⟩ : ∃ z, z = zlibZ b kind := ⟨_, rfl⟩
  rw [← hz] at ZL ZR
  clear hl hr hz htl
  go_enter Try.func3, Try.ntmps3
  go_wp2_with fail
  (with_reducible refine AW.out.mono ?_)
  rintro e w1 ⟨rfl, hk1⟩
  have K1 := Lib.hid hk1
  clear hk1
  go_wp2_with fail
  (with_reducible refine (RW.out _ K1.out).mono ?_)
  rintro e w2 h2
  obtain ⟨v2, rfl, ho2, hk2⟩ := h2.sees
  have K2 := Lib.hid (K1.out.trans hk2)
  have O2 := Lib.hid ho2
  clear h2 hk2 ho2
  go_wp2_with fail
  (with_reducible refine (RR.out _ K2.out).mono ?_)
  rintro e w3 h3
  obtain ⟨v3, rfl, ho3, hk3⟩ := h3.sees
  have K3 := Lib.hid (K2.out.trans hk3)
  have K23 := Lib.hid hk3
  have O3 := Lib.hid ho3
  clear h3 hk3 ho3
  go_wp2_with fail
  (with_reducible refine (ZL.out _ K3.out).mono ?_)
  rintro e w4 h4
  obtain ⟨v4, rfl, ho4, hk4⟩ := h4.sees
  have K4 := Lib.hid (K3.out.trans hk4)
  have K34 := Lib.hid hk4
  have O4 := Lib.hid ho4
  clear h4 hk4 ho4
  go_wp2_with fail
  (with_reducible refine (ZR.out _ K4.out).mono ?_)
  rintro e w5 h5
  obtain ⟨v5, rfl, ho5, hk5⟩ := h5.sees
  have K5 := Lib.hid (K4.out.trans hk5)
  have K45 := Lib.hid hk5
  have O5 := Lib.hid ho5
  clear h5 hk5 ho5
  go_wp2_with fail
  (with_reducible refine (TK.out _ K5.out).mono ?_)
  rintro e w6 ⟨v6, rfl, ht6, hk6⟩
  obtain ⟨q6, d6, rfl, -, -⟩ := ht6.shape
  have K6 := Lib.hid (K5.out.trans hk6)
  have K56 := Lib.hid hk6
  have TH := Lib.hid (theirs_any l q6 d6 w6 ht6.tokR (by omega))
  clear ht6 hk6
  go_wp2_with fail
  (with_reducible refine TH.out.mono ?_)
  rintro e w7 ⟨v7, rfl, ht7, hk7⟩
  obtain ⟨q7, d7, rfl, -, -⟩ := ht7.shape
  have K7 := Lib.hid (K6.out.trans hk7)
  have K57 := Lib.hid (K56.out.trans hk7)
  have T7 := Lib.hid ht7.tokR
  clear ht7 hk7
  go_wp2_with fail
  (with_reducible refine (RT.out _ K7.out).mono ?_)
  rintro e w8 ⟨v8, rfl, ht8, hk8⟩
  obtain ⟨q8, d8, rfl, -, -⟩ := ht8.shape
  have K8 := Lib.hid (K7.out.trans hk8)
  have K58 := Lib.hid (K57.out.trans hk8)
  have SM := Lib.hid (refSame_any l q7 q8 d7 d8 w8 ((T7.out.keep (Nat.le_refl _) hk8).mono (Below.size hk8)) ht8.tokR (by omega))
  clear ht8 hk8
  go_wp2_with fail
  (with_reducible refine SM.out.mono ?_)
  rintro e w9 ⟨rfl, hk9⟩
  have K9 := Lib.hid (K8.out.trans hk9)
  have K59 := K58.out.trans hk9
  have s5 := (O5.out.kept K59).stringD
  have s4 := (O4.out.kept (K45.out.trans K59)).stringD
  have s3 := (O3.out.kept (K34.out.trans (K45.out.trans K59))).stringD
  have s2 := (O2.out.kept (K23.out.trans (K34.out.trans (K45.out.trans K59)))).stringD
  clear hk9 K59
  go_wp2_with fail
  go_ret
  exact ⟨rfl, K9.out⟩

end Go.Proofs.Ytpplboihlndfpaa
