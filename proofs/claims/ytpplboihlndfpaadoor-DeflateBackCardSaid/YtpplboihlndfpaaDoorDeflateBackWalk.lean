/-
  There and back: any bytes, pressed in either way, are told again; their tokens are they.
-/
import Derived.Test.YtpplboihlndfpaaDoorDefAwake
import Derived.Test.YtpplboihlndfpaaDoorDefExpand
import Derived.Test.YtpplboihlndfpaaDoorDefMaths
import Derived.Test.YtpplboihlndfpaaDoorInfArgs
import Derived.Test.YtpplboihlndfpaaDoorInfZlib
namespace Go.Proofs.YtpplboihlndfpaaDoor
open Go.RowKit Ix Dx
set_option linter.unusedSimpArgs false
set_option linter.unusedVariables false

theorem and_low1 (z : Int) : bits BinOp.and IntKind.i64 z 1 = z % 2 := by
  have e2 : (BitVec.ofInt 64 (1 : Int)).toNat = 1 := by decide
  have h1 : (BitVec.ofInt 64 z &&& BitVec.ofInt 64 (1 : Int)).toNat = (z % 18446744073709551616).toNat % 2 := by
    rw [BitVec.toNat_and, e2, ofInt64]
    generalize (z % 18446744073709551616).toNat = x
    exact Nat.and_two_pow_sub_one_eq_mod x 1
  have h : (((z % 18446744073709551616).toNat % 2 : Nat) : Int) = z % 2 := by omega
  show IntKind.i64.wrap ((BitVec.ofInt 64 z &&& BitVec.ofInt 64 (1 : Int)).toNat : Int) = _
  rw [h1, h]
  exact IntWalk.i64_in _ (by omega)

theorem zlibZ_is {b : List UInt8} {kind : Int} {r : List UInt8} (h : rawZ b kind = .ok r) : zlibZ b kind = .ok ([120, 1] ++ r ++ sumB (adler b)) := by unfold zlibZ; rw [h]
theorem pressV_len (b : List UInt8) : (pressV (tokens b)).length ≤ 5 * b.length + 3 := by
  have h1 : (pressV (tokens b)).length = ((pressBits (tokens b)).length + 7) / 8 := pkL_len _
  have h2 := toksBits_le (tokens b) (fun t ht => toks_ok b _ _ t ht)
  have h3 := tokens_len b
  have h4 : (symBits 256).length = 7 := symBits_len 256
  have h5 : (pressBits (tokens b)).length = 3 + (toksBits (tokens b)).length + 7 := by
    unfold pressBits
    rw [List.length_append, List.length_append, h4]; rfl
  omega
/-- What Raw of the two kinds answers, is told again. -/
theorem rawZ_back {b : List UInt8} {kind : Int} (h : b.length ≤ 3000) (hk : kind = 0 ∨ kind = 1) : ∃ r, rawZ b kind = .ok r ∧ r.length ≤ 100000 ∧ rawV r = .ok (b, r.length) := by
  unfold rawZ
  rw [if_neg (by omega), if_neg (by omega)]
  by_cases c : kind = 0
  · rw [if_pos c]
    refine ⟨_, rfl, ?_, raw_stored b (by omega)⟩
    have e : stoV b = blkV 1 b := stoGo_last _ (by omega)
    have hl : (stoV b).length = b.length + 5 := by rw [e]; simp [blkV]
    omega
  · rw [if_neg c]
    refine ⟨_, rfl, ?_, raw_pressed b (by omega)⟩
    have := pressV_len b
    omega
theorem arg_string {w : World} {B0 c : Nat} {p : Option Addr} {l : List UInt8} (h : ByR w B0 p l) (hp : p = none → c = 0) : (convert 35 9 (.slice p l.length c)).run Tryd.prog w = .ok (.string ⟨l.toArray⟩) w := by
  cases p with
  | none =>
    have hl : l = [] := by
      cases l with
      | nil => rfl
      | cons x r =>
        obtain ⟨k, o, e, -⟩ := h 0 (by simp)
        cases e
    subst hl
    rw [hp rfl]
    exact run_convert_bytes_nil (P := Tryd.prog) w 35 5 Tryd.underlying35 Tryd.underlying5 0 0 _ Tryd.underlying9
  | some a =>
    refine run_convert_bytes_back (P := Tryd.prog) w 35 9 5 a c l Tryd.underlying35 Tryd.underlying5 Tryd.underlying9 fun j hj => ?_
    obtain ⟨k, o, e, -, hc⟩ := h j hj
    have e := Option.some.inj e
    subst e
    rw [Addr.add_lit]
    exact hc

set_option maxRecDepth 100000 in
set_option maxHeartbeats 4000000 in
theorem DeflateBack_walk (v : Value) (b : List UInt8) (kind : Int) (w : World) (h : ByArg w v b) (hkb : -9223372036854775808 ≤ kind ∧ kind ≤ 9223372036854775807) (hord : Ordd w) :
    Calls Tryd.prog 4 #[v, .int .i64 kind] w fun e w' => e = .returned (.bool true) ∧ Kept w w' := by
  obtain ⟨p, c, rfl, hb, hlc, hlm, hpn⟩ := h
  have HB := Lib.hid hb
  have HORD := Lib.hid hord
  have HPN := Lib.hid hpn
  have AW := Lib.hid (awake7_any w)
  clear hb hord hpn
  by_cases hbig : 3000 < b.length
  · have i1 : (3000 : Int) < (b.length : Int) := by omega
    go_enter Tryd.func4, Tryd.ntmps4
    go_wp2_with fail
    (with_reducible refine AW.out.mono ?_)
    rintro e w1 ⟨rfl, hk1⟩
    have K1 := Lib.hid hk1
    clear hk1
    go_wp2_with fail
    go_ret
    exact ⟨rfl, K1.out⟩
  have i1 : ¬ (3000 : Int) < (b.length : Int) := by omega
  have BR := Lib.hid (fun w' (k : Kept w w') => (show ByR w' w'.heap.size p b from fun i hi => by
    obtain ⟨kb, o, h1, h2, h3⟩ := (HB.out.keep (Nat.le_refl _) k) i hi
    exact ⟨kb, o, h1, by have := Below.size k; omega, h3⟩))
  obtain ⟨m, hm, hm2⟩ : ∃ m : Int, kind % 2 = m ∧ (m = 0 ∨ m = 1) := ⟨kind % 2, rfl, by omega⟩
  have ha : bits BinOp.and IntKind.i64 kind 1 = m := by rw [and_low1]; exact hm
  obtain ⟨r, hr, hrl, hrv⟩ := rawZ_back (b := b) (by omega) hm2
  obtain ⟨z, hz⟩ : ∃ z, z = [120, 1] ++ r ++ sumB (adler b) := ⟨_, rfl⟩
  have hzv : zlibV z = .ok (b, z.length) := by rw [hz]; exact zlib_around r b hrv
  have hzl : z.length = r.length + 6 := by rw [hz]; simp [sumB]
  have ZL := Lib.hid (fun w' (k : Kept w w') => (show Calls Tryd.prog 14 #[.slice p b.length c, .int .i64 m] w' (DRawA w' (.ok z)) by
    have t := defZlib_any b m p c w' (BR.out w' k) hlc HPN.out (by omega) (by omega)
    rw [zlibZ_is hr, ← hz] at t; exact t))
  have RW := Lib.hid (fun w' (k : Kept w w') => (show Calls Tryd.prog 16 #[.slice p b.length c, .int .i64 m] w' (DRawA w' (.ok r)) by
    have t := defRaw_any b m p c w' (BR.out w' k) hlc HPN.out (by omega) (by omega)
    rw [hr] at t; exact t))
  have ZI := Lib.hid (fun w' q d (h : ByR w' w'.heap.size q z) (hd : z.length ≤ d) (ho : Ordd w') => (show Calls Tryd.prog 15 #[.slice q z.length d] w' (RawA w' (.ok (b, z.length))) by
    have t := Zlib_any z q d w' h hd (by omega) ho
    rw [hzv] at t; exact t))
  have RI := Lib.hid (fun w' q d (h : ByR w' w'.heap.size q r) (ho : Ordd w') => (show Calls Tryd.prog 17 #[.slice q r.length d] w' (RawA w' (.ok (b, r.length))) by
    have t := Raw_any r q d w' h (by omega) ho
    rw [hrv] at t; exact t))
  have TK := Lib.hid (fun w' (k : Kept w w') => Tokens_any b p c w' (BR.out w' k) hlc (by omega))
  have hel := expand_tokens b (by omega)
  have htl := tokens_len b
  obtain ⟨l, hl⟩ : ∃ l, l = tokens b := ⟨_, rfl⟩
  rw [← hl] at TK hel htl
  have EX := Lib.hid (fun w' q d (h : TokR w' w'.heap.size q l) => (show Calls Tryd.prog 18 #[.slice q l.length d] w' (ExpA w' (.ok b)) by
    have t := Expand_any l q d w' h (by omega)
    rw [hel] at t; exact t))
  clear hm hm2 hr hrl hrv hz hzv hzl hel htl hl
  go_enter Tryd.func4, Tryd.ntmps4
  go_wp2_with fail
  (with_reducible refine AW.out.mono ?_)
  rintro e w1 ⟨rfl, hk1⟩
  have K1 := Lib.hid hk1
  clear hk1
  go_wp2_with fail
  (with_reducible refine (ZL.out _ K1.out).mono ?_)
  rintro e w2 ⟨hk2, v2, rfl, ho2⟩
  obtain ⟨q2, d2, rfl, hd2, hb2, -⟩ := ho2.see
  have K2 := Lib.hid (K1.out.trans hk2)
  have B2 := Lib.hid hb2
  have D2 := Lib.hid hd2
  clear hk2 ho2 hb2 hd2
  go_wp2_with fail
  (with_reducible refine (ZI.out _ _ _ B2.out D2.out (HORD.out.kept K2.out)).mono ?_)
  rintro e w3 ⟨hk3, v3, rfl, ho3, -⟩
  have K3 := Lib.hid (K2.out.trans hk3)
  have O3 := Lib.hid ho3
  clear hk3 ho3
  go_wp2_with fail
  (with_reducible refine (RW.out _ K3.out).mono ?_)
  rintro e w4 ⟨hk4, v4, rfl, ho4⟩
  obtain ⟨q4, d4, rfl, hd4, hb4, -⟩ := ho4.see
  have K34 := Lib.hid hk4
  have K4 := Lib.hid (K3.out.trans hk4)
  have B4 := Lib.hid hb4
  clear hk4 ho4 hb4 hd4
  go_wp2_with fail
  (with_reducible refine (RI.out _ _ _ B4.out (HORD.out.kept K4.out)).mono ?_)
  rintro e w5 ⟨hk5, v5, rfl, ho5, -⟩
  have K35 := Lib.hid (K34.out.trans hk5)
  have K5 := Lib.hid (K4.out.trans hk5)
  have O5 := Lib.hid ho5
  clear hk5 ho5
  go_wp2_with fail
  (with_reducible refine (TK.out _ K5.out).mono ?_)
  rintro e w6 ⟨v6, rfl, ht6, hk6⟩
  obtain ⟨q6, d6, rfl, -, -⟩ := ht6.shape
  have K56 := Lib.hid hk6
  have K6 := Lib.hid (K5.out.trans hk6)
  have T6 := Lib.hid ht6.tokR
  clear hk6 ht6
  go_wp2_with fail
  (with_reducible refine (EX.out _ _ _ T6.out).mono ?_)
  rintro e w7 ⟨hk7, v7, rfl, ho7⟩
  have K7 := Lib.hid (K6.out.trans hk7)
  have K57 := Lib.hid (K56.out.trans hk7)
  have s7 := ho7.stringD
  have s5 := (O5.out.kept K57.out).stringD
  have s3 := (O3.out.kept (K35.out.trans K57.out)).stringD
  have sa := arg_string (BR.out _ K7.out) HPN.out
  clear hk7 ho7
  go_wp2_with fail
  go_ret
  exact ⟨rfl, K7.out⟩

end Go.Proofs.YtpplboihlndfpaaDoor
