/-
  Bytes of ASCII that are printed are themselves.
-/
import Derived.Test.YtkgaddlclfjkmaaMetricBackWalk
import Derived.Test.YtkgaddlclfjkmaaMetUtf
namespace Go.Proofs.Ytkgaddlclfjkmaa
open Go.RowKit
set_option linter.unusedSimpArgs false
set_option linter.unusedVariables false

theorem and_4095 (n : Int) : bits .and .i32 n 4095 = n % 4096 := by
  have hc : (BitVec.ofInt 32 4095).toNat = 2 ^ 12 - 1 := by decide
  have hk : (BitVec.ofInt 32 n &&& BitVec.ofInt 32 4095).toNat = (n % ((2 ^ 32 : Nat) : Int)).toNat % 2 ^ 12 := by
    rw [BitVec.toNat_and, BitVec.toNat_ofInt, hc, Nat.and_two_pow_sub_one_eq_mod]
  show IntKind.i32.wrap ((BitVec.ofInt 32 n &&& BitVec.ofInt 32 4095).toNat : Nat) = n % 4096
  rw [hk]
  unfold IntKind.wrap
  simp [IntKind.bits, IntKind.signed]
  omega

set_option maxRecDepth 100000 in
set_option maxHeartbeats 4000000 in
theorem MetricPlain_walk (s : ByteArray) (r : Int) (w : World) :
    Calls Try.prog 7 #[.string s, .int .i32 r] w fun e w' => e = .returned (.bool true) ∧ Kept w w' := by
  have AW := Lib.hid (awake13_any w)
  by_cases hbig : (500 : Int) < (s.size : Int)
  · go_enter Try.func7, Try.ntmps7
    go_wp2_with fail
    (with_reducible refine AW.out.mono ?_)
    rintro e w1 ⟨rfl, hk1⟩
    have K1 := Lib.hid hk1
    clear hk1
    go_wp2_with fail
    go_ret
    exact ⟨rfl, K1.out⟩
  have hsz : s.size ≤ 500 := by omega
  obtain ⟨q, hq⟩ : ∃ q : Nat, (q : Int) = 256 + r % 4096 := ⟨(256 + r % 4096).toNat, by omega⟩
  have hq0 : 256 ≤ q := by omega
  have hq1 : q ≤ 4351 := by omega
  obtain ⟨z, hz⟩ : ∃ z : Int, z = r % 4096 := ⟨_, rfl⟩
  have hb : bits .and .i32 r 4095 = z := by rw [and_4095, hz]
  have z0 : 0 ≤ z := by omega
  have z1 : z ≤ 4095 := by omega
  obtain ⟨C, hC⟩ : ∃ C, C = Utf8.encode (256 + z) := ⟨_, rfl⟩
  have hCl : C.data.toList = Lib.encodeRune (q : Int) := by rw [hC, Mt.utf_enc, hq, hz]
  have hC4 : C.size ≤ 4 := by rw [Lib.size_eq, hCl]; exact (Mt.encR_len _).2
  have hcat : (s ++ C).data.toList = s.data.toList ++ C.data.toList := by simp
  have HALL : Hid ((∀ b ∈ s.data.toList, Mt.plain b = true) →
      (∀ wx, Calls Try.prog 17 #[.string s] wx fun e w' => e = .returned (.string s) ∧ Kept wx w') ∧
      (∀ wx, Calls Try.prog 19 #[.string s] wx fun e w' => e = .returned (.string s) ∧ Kept wx w') ∧
      (∀ wx, Calls Try.prog 15 #[.string s] wx fun e w' => e = .returned (.tuple #[.string s, .bool true]) ∧ Kept wx w') ∧
      (∀ wx, Calls Try.prog 15 #[.string (s ++ C)] wx fun e w' => e = .returned (.tuple #[.string ⟨#[]⟩, .bool false]) ∧ Kept wx w') ∧
      ∃ E : ByteArray, E.size = 2 * s.size + 4 ∧ (∀ wx, Calls Try.prog 19 #[.string (s ++ C)] wx fun e w' => e = .returned (.string E) ∧ Kept wx w') ∧
        (∀ wx, Calls Try.prog 17 #[.string E] wx fun e w' => e = .returned (.string (s ++ C)) ∧ Kept wx w')) := by
    refine Lib.hid fun hp => ?_
    obtain ⟨p1, p2, p3, p4⟩ := Mt.plain_all s.data.toList hp
    obtain ⟨m1, m2, m3⟩ := Mt.plain_more s.data.toList hp q hq0 hq1
    rw [← hCl, ← hcat] at m1 m2 m3
    have hsc : (s ++ C).size ≤ 504 := by rw [Lib.size_eq, hcat, List.length_append, ← Lib.size_eq, ← Lib.size_eq]; omega
    refine ⟨fun wx => Decode_of s s p1 (by omega) wx, fun wx => Encode_of s s p2 (by omega) wx, fun wx => ?_, fun wx => ?_, ⟨(Mt.encodeV (s ++ C).data.toList).toArray⟩, ?_, fun wx => Encode_of _ _ rfl (by omega) wx, fun wx => Decode_of _ _ m3 ?_ wx⟩
    · have := Bytes_any s wx (by omega)
      rw [p3, p4] at this
      exact this
    · have := Bytes_any (s ++ C) wx (by omega)
      rw [show Mt.bytesV (s ++ C).data.toList = [] by unfold Mt.bytesV; rw [m1]; rfl, m1] at this
      exact this
    · rw [Lib.size_eq, m2, ← Lib.size_eq]
    · rw [Lib.size_eq, m2, ← Lib.size_eq]; omega
  have hsC : s.size + C.size ≤ 9223372036854775807 := by omega
  have hCe : Utf8.encode (256 + z) = C := hC.symm
  clear hq hz hCl hcat hC
  go_enter Try.func7, Try.ntmps7
  go_wp2_with fail
  (with_reducible refine AW.out.mono ?_)
  rintro e w1 ⟨rfl, hk1⟩
  have K1 := Lib.hid hk1
  clear hk1
  go_wp2_with fail
  go_loopg [6] (s.size + 1) (fun m x wr => ∃ j : Nat, m = s.size - j + 1 ∧ j ≤ s.size ∧ x = .int .i64 j ∧ Hid (∀ k (h : k < s.size), k < j → Mt.plain s[k] = true) ∧ w1 = wr)
  case atStart => exact ⟨0, rfl, Nat.zero_le _, rfl, Lib.hid fun k h hk => absurd hk (Nat.not_lt_zero _), rfl⟩
  case round =>
    obtain ⟨j, hm, hj, rfl, HP, rfl⟩ := hrel
    by_cases hlt : j < s.size
    · obtain ⟨x, hx⟩ : ∃ x, x = s[j].toNat := ⟨_, rfl⟩
      have hi : ((s[j].toNat : Nat) : Int) = (x : Int) := by rw [hx]
      have hj0 : (0 : Int) ≤ (j : Int) := by omega
      have hj1 : (j : Int) < (s.size : Int) := by omega
      have HX := Lib.hid hx
      by_cases h0 : x < 32
      · have i0 : (x : Int) < 32 := by omega
        clear hx
        go_wp2_with fail
        go_ret
        exact ⟨rfl, K1.out⟩
      by_cases h1 : 126 < x
      · have i0 : ¬ (x : Int) < 32 := by omega
        have i1 : (126 : Int) < (x : Int) := by omega
        clear hx
        go_wp2_with fail
        go_ret
        exact ⟨rfl, K1.out⟩
      · have i0 : ¬ (x : Int) < 32 := by omega
        have i1 : ¬ (126 : Int) < (x : Int) := by omega
        clear hx
        go_wp2_with fail
        go_roundg (s.size - (j + 1) + 1)
        case measure => omega
        case rel =>
          refine ⟨j + 1, rfl, by omega, by go_num, Lib.hid fun k h hk => ?_, rfl⟩
          by_cases e : k = j
          · subst e
            have := HX.out
            unfold Mt.plain
            rw [decide_eq_true (show 32 ≤ s[k].toNat by omega), decide_eq_true (show s[k].toNat ≤ 126 by omega)]; rfl
          · exact HP.out k h (by omega)
    · obtain rfl : j = s.size := by omega
      obtain ⟨c1, c2, c3, c4, E, hE, c5, c6⟩ := HALL.out (by
        intro b hb
        obtain ⟨k, hk, rfl⟩ := List.getElem_of_mem hb
        have hk2 : k < s.size := by simpa using hk
        exact HP.out k hk2 hk2)
      have D1 := Lib.hid c1
      have D2 := Lib.hid c2
      have D3 := Lib.hid c3
      have D4 := Lib.hid c4
      have D5 := Lib.hid c5
      have D6 := Lib.hid c6
      clear c1 c2 c3 c4 c5 c6 HALL
      go_wp2_with fail
      (with_reducible refine (D3.out _).mono ?_)
      rintro e w2 ⟨rfl, hk2⟩
      have K2 := Lib.hid (K1.out.trans hk2)
      clear hk2
      go_wp2_with fail
      (with_reducible refine (D4.out _).mono ?_)
      rintro e w3 ⟨rfl, hk3⟩
      have K3 := Lib.hid (K2.out.trans hk3)
      clear hk3
      go_wp2_with fail
      (with_reducible refine (D1.out _).mono ?_)
      rintro e w4 ⟨rfl, hk4⟩
      have K4 := Lib.hid (K3.out.trans hk4)
      clear hk4
      go_wp2_with fail
      (with_reducible refine (D2.out _).mono ?_)
      rintro e w5 ⟨rfl, hk5⟩
      have K5 := Lib.hid (K4.out.trans hk5)
      clear hk5
      go_wp2_with fail
      (with_reducible refine (D5.out _).mono ?_)
      rintro e w6 ⟨rfl, hk6⟩
      have K6 := Lib.hid (K5.out.trans hk6)
      clear hk6
      go_wp2_with fail
      (with_reducible refine (D5.out _).mono ?_)
      rintro e w7 ⟨rfl, hk7⟩
      have K7 := Lib.hid (K6.out.trans hk7)
      clear hk7
      go_wp2_with fail
      (with_reducible refine (D6.out _).mono ?_)
      rintro e w8 ⟨rfl, hk8⟩
      have K8 := Lib.hid (K7.out.trans hk8)
      clear hk8
      go_wp2_with fail
      go_ret
      exact ⟨rfl, K8.out⟩

end Go.Proofs.Ytkgaddlclfjkmaa
