/-
  A byte again and again is that byte, and matches one back.
-/
import Derived.Test.YtpplboihlndfpaaDefAwake
import Derived.Test.YtpplboihlndfpaaDefLawMath
import Derived.Test.YtpplboihlndfpaaInfArgs
namespace Go.Proofs.Ytpplboihlndfpaa
open Go.RowKit Ix Dx
set_option linter.unusedSimpArgs false
set_option linter.unusedVariables false

theorem run_least2 {P : Program} {w : World} (ts : Array TypeId) (t : TypeId) (k k' : IntKind) (x y : Int) : (Builtin.min_ ts t #[.int k x, .int k' y]).run P w = .ok (.int k (min x y)) w := by
  rw [run_min_int2]; congr 2; split <;> omega
attribute [local go_sem ↓] run_least2

theorem and_low2047 (z : Int) : bits BinOp.and IntKind.i64 z 2047 = z % 2048 := by
  have e2 : (BitVec.ofInt 64 (2047 : Int)).toNat = 2047 := by decide
  have h1 : (BitVec.ofInt 64 z &&& BitVec.ofInt 64 (2047 : Int)).toNat = (z % 18446744073709551616).toNat % 2048 := by
    rw [BitVec.toNat_and, e2, ofInt64]
    generalize (z % 18446744073709551616).toNat = x
    exact Nat.and_two_pow_sub_one_eq_mod x 11
  have h : (((z % 18446744073709551616).toNat % 2048 : Nat) : Int) = z % 2048 := by omega
  show IntKind.i64.wrap ((BitVec.ofInt 64 z &&& BitVec.ofInt 64 (2047 : Int)).toNat : Int) = _
  rw [h1, h]
  exact IntWalk.i64_in _ (by omega)

/-- Bytes of a row that was made, set up to a place. -/
def setTo (c : UInt8) (k i : Nat) : List UInt8 := List.replicate i c ++ List.replicate (k - i) 0
theorem setTo_len (c : UInt8) (k i : Nat) (h : i ≤ k) : (setTo c k i).length = k := by unfold setTo; simp; omega
theorem setTo_next (c : UInt8) (k i : Nat) (h : i < k) : (setTo c k i).set i c = setTo c k (i + 1) := by
  unfold setTo
  rw [List.set_append_right _ _ (by simp)]
  obtain ⟨m, hm⟩ : ∃ m, k - i = m + 1 := ⟨k - i - 1, by omega⟩
  rw [hm, List.length_replicate, Nat.sub_self, List.replicate_succ, List.set_cons_zero, show k - (i + 1) = m by omega, List.replicate_succ' (n := i)]
  simp
theorem setTo_end (c : UInt8) (k : Nat) : setTo c k k = List.replicate k c := by unfold setTo; simp

set_option maxRecDepth 100000 in
set_option maxHeartbeats 4000000 in
theorem DeflateRuns_walk (c : UInt8) (n : Int) (w : World) (hn : -9223372036854775808 ≤ n ∧ n ≤ 9223372036854775807) :
    Calls Try.prog 6 #[.int .u8 (c.toNat : Int), .int .i64 n] w fun e w' => e = .returned (.bool true) ∧ Kept w w' := by
  have AW := Lib.hid (awake7_any w)
  obtain ⟨m, hm⟩ : ∃ m : Nat, n % 2048 = (m : Int) := ⟨(n % 2048).toNat, by omega⟩
  have hm2 : m < 2048 := by omega
  have ha := and_low2047 n
  rw [hm] at ha
  obtain ⟨k, hk⟩ : ∃ k, k = 4 + m := ⟨_, rfl⟩
  have s1 : (4 : Int) + (m : Int) = (k : Int) := by omega
  have hk4 : 4 ≤ k := by omega
  have hk5 : k ≤ 2051 := by omega
  obtain ⟨i0', hi, hz0, hz1, hz2⟩ := info_parts info_byte
  clear hm hk
  go_enter Try.func6, Try.ntmps6
  go_wp2_with fail
  (with_reducible refine AW.out.mono ?_)
  rintro e w1 ⟨rfl, hk1⟩
  have K1 := Lib.hid hk1
  have hs1 := Below.size hk1
  clear hk1
  go_wp2_with (at_make; go_loud (refine wpList_make_full _ rfl _ _ 22 rfl w.heap.size 5 i0' (.int .u8 0) 1 Try.underlying22 hi hz0 hz1 .i64 .i64 _ _ k rfl rfl rfl rfl (by rw [hz2]; omega) (by unfold maxLen; omega) hs1 ?_); intro w4 hown hgrow; have O4 := Lib.hid hown; have K4 := Lib.hid (show Kept w w4 from Below.grown K1.out hgrow hs1 (fun k h => by cases h)); clear hown hgrow)
  have O0 := Lib.hid (show Out w4 w.heap.size (.slice (some ⟨w1.heap.size, 0, none⟩) k k) (List.replicate k 0) from by
    have z := O4.out
    unfold Out
    rw [List.length_replicate]
    have e : (madeCells (Value.int .u8 0).cells (k * 1)).toList = bytsV (List.replicate k 0) := by
      unfold madeCells bytsV
      rw [Nat.mul_one]
      apply List.ext_getElem
      · simp
      · intro i hi hj
        simp [Value.cells, Nat.mod_one]
    rw [← e]; exact z)
  obtain ⟨gb, hgb⟩ : ∃ gb, gb = w1.heap.size := ⟨_, rfl⟩
  rw [← hgb] at O0 ⊢
  clear O4 hgb
  go_loopg [8] k (fun m y wr => ∃ i : Nat, m = k - i ∧ i ≤ k ∧ y = .int .i64 i ∧ Out wr w.heap.size (.slice (some ⟨gb, 0, none⟩) k k) (setTo c k i) ∧ Kept w wr)
  case atStart => exact ⟨0, rfl, Nat.zero_le _, rfl, by unfold setTo; simpa using O0.out, K4.out⟩
  case round =>
    obtain ⟨i, hmi, hi, rfl, ho, hk⟩ := hrel
    have HO := Lib.hid ho
    have HK := Lib.hid hk
    clear ho hk
    by_cases hlt : i < k
    · have j1 : (i : Int) < (k : Int) := by omega
      have hcl := HO.out.cellO i (by rw [setTo_len c k i hi]; exact hlt)
      have hfz := HO.out.frozenO
      have O2 := Lib.hid (HO.out.setO' i c)
      rw [setTo_next c k i hlt] at O2
      have K2 := Lib.hid (HK.out.set (HO.out.lt gb rfl).1 (.int .u8 (c.toNat : Int)) (o := i))
      go_wp2_with fail
      go_roundg (k - (i + 1))
      case measure => omega
      case rel => exact ⟨i + 1, rfl, by omega, by go_num, O2.out, K2.out⟩
    · obtain rfl : i = k := by omega
      have O2 := Lib.hid HO.out
      rw [setTo_end] at O2
      have TK := Lib.hid (Tokens_any (List.replicate i c) (some ⟨gb, 0, none⟩) i wr (by
        intro j hj
        rw [List.length_replicate] at hj
        refine ⟨gb, 0, rfl, (O2.out.lt gb rfl).2, ?_⟩
        rw [Nat.zero_add, O2.out.cellO j (by simpa using hj)]
        simp [List.getD, hj]) (by rw [List.length_replicate]; exact Nat.le_refl _) (by rw [List.length_replicate]; omega))
      rw [List.length_replicate] at TK
      go_wp2_with fail
      (with_reducible refine TK.out.mono ?_)
      rintro e w5 ⟨v5, rfl, ht, hk5⟩
      have K5 := Lib.hid (HK.out.trans hk5)
      obtain ⟨q, cap, rfl, hqc, -⟩ := ht.shape
      have TR := Lib.hid ht.tokR
      have htl := tokens_len (List.replicate i c)
      rw [List.length_replicate] at htl
      obtain ⟨l, hl⟩ : ∃ l, l = tokens (List.replicate i c) := ⟨_, rfl⟩
      rw [← hl] at TR htl hqc ⊢
      have HLE := Lib.hid hl
      obtain ⟨b, hb⟩ : ∃ b, b = List.replicate i c := ⟨_, rfl⟩
      have hbl : b.length = i := by rw [hb]; simp
      have LR := Lib.hid (fun j h0 h1 => (show long b j = if 3 ≤ i - j then (min 258 (i - j), 1) else (0, 0) by rw [hb]; exact long_rep c i j h0 h1))
      have AR := Lib.hid (fun j h1 => (show at' b j = c by rw [hb]; exact at_rep c i j h1))
      rw [← hb] at HLE
      clear ht hk5 hl hb TK
      go_wp2_with fail
      go_loopg [10, 11] (l.length) (fun m x y wr => ∃ (j at_ f r : Nat), m = l.length - j ∧ j ≤ l.length ∧ y = .int .i64 j ∧ x = .int .i64 r ∧ r + max at_ 1 = i ∧ at_ ≤ i ∧ (j = 0 ↔ at_ = 0) ∧ Hid (l.drop j = toks b f at_ ∧ b.length ≤ f + at_) ∧ Kept w5 wr)
      case atStart => exact ⟨0, 0, b.length, i - 1, rfl, Nat.zero_le _, rfl, by go_num, by omega, Nat.zero_le _, Iff.rfl, Lib.hid ⟨by rw [List.drop_zero]; exact HLE.out, Nat.le_refl _⟩, Kept.refl _⟩
      case round =>
        obtain ⟨j, at_, f, r, hm, hj, rfl, rfl, hr, hat, hj0, HD, hk⟩ := hrel
        have HK5 := Lib.hid hk
        clear hk
        by_cases hlt2 : j < l.length
        · have j1 : (j : Int) < (l.length : Int) := by omega
          have hal : at_ < b.length := by
            by_cases cc : at_ < b.length
            · exact cc
            · have h1 := HD.out.1
              rw [toks_end b f at_ (by omega), List.drop_eq_nil_iff] at h1
              omega
          obtain ⟨kt, ot, hq, hkt, t0, t1, t2⟩ := (TR.out.keep (Nat.le_refl _) HK5.out) j hlt2
          subst hq
          have hdr : l.drop j = l[j] :: l.drop (j + 1) := List.drop_eq_getElem_cons hlt2
          by_cases hz : j = 0
          · have haz : at_ = 0 := hj0.1 hz
            subst hz haz
            obtain ⟨g, hg, hst⟩ := toks_lit hal HD.out.2 rfl
            have hh := HD.out.1
            rw [hdr, hst] at hh
            injection hh with e1 e2
            have HD2 := Lib.hid (show l.drop (0 + 1) = toks b g (0 + 1) ∧ b.length ≤ g + (0 + 1) from ⟨e2, hg⟩)
            rw [e1, AR.out 0 (by omega)] at t0
            rw [e1] at t1 t2
            simp only at t0 t1 t2
            have hne : ((c.toNat : Int) != (c.toNat : Int)) = false := by simp
            rw [Nat.zero_mul, Nat.add_zero] at t0 t1 t2
            have HRR := Lib.hid (show r + max 1 1 = i by omega)
            clear hdr hst e1 e2 hg
            go_wp2_with fail
            go_roundg (l.length - (0 + 1))
            case measure => omega
            case rel => exact ⟨0 + 1, 0 + 1, g, r, rfl, by omega, by go_num, rfl, HRR.out, by omega, by omega, Lib.hid HD2.out, HK5.out⟩
          · have ha1 : 1 ≤ at_ := by omega
            have hri : r + at_ = i := by omega
            have z0 : ((j : Int) == 0) = false := by rw [beq_eq_false_iff_ne]; omega
            have hlong := LR.out at_ ha1 (by omega)
            by_cases h3 : 3 ≤ i - at_
            · rw [if_pos h3] at hlong
              have h0 : (long b at_).1 ≠ 0 := by rw [hlong]; simp; omega
              obtain ⟨g, hg, hst⟩ := toks_match hal HD.out.2 h0
              have hh := HD.out.1
              rw [hdr, hst] at hh
              injection hh with e1 e2
              obtain ⟨q2, hq2⟩ : ∃ q2, q2 = min 258 (i - at_) := ⟨_, rfl⟩
              rw [hlong, ← hq2] at e1
              rw [hlong, ← hq2] at e2 hg
              simp only at e1 e2 hg
              have HD2 := Lib.hid (show l.drop (j + 1) = toks b g (at_ + q2) ∧ b.length ≤ g + (at_ + q2) from ⟨e2, hg⟩)
              rw [e1] at t0 t1 t2
              simp only at t0 t1 t2
              have s3 : (3 : Int) ≤ (r : Int) := by omega
              have s4 : min (r : Int) 258 = (q2 : Int) := by omega
              obtain ⟨r2, hr2⟩ : ∃ r2, r2 = r - q2 := ⟨_, rfl⟩
              have s5 : (r : Int) - (q2 : Int) = (r2 : Int) := by omega
              have hx1 : ((q2 : Int) != (q2 : Int)) = false := by simp
              have HRR := Lib.hid (show r2 + max (at_ + q2) 1 = i ∧ at_ + q2 ≤ i by omega)
              clear hdr hst e1 e2 hg hlong h0 hq2 hr2 h3 hj0
              go_wp2_with fail
              go_roundg (l.length - (j + 1))
              case measure => omega
              case rel => exact ⟨j + 1, at_ + q2, g, r2, rfl, by omega, by go_num, rfl, HRR.out.1, HRR.out.2, by omega, Lib.hid HD2.out, HK5.out⟩
            · rw [if_neg h3] at hlong
              have h0 : (long b at_).1 = 0 := by rw [hlong]
              obtain ⟨g, hg, hst⟩ := toks_lit hal HD.out.2 h0
              have hh := HD.out.1
              rw [hdr, hst] at hh
              injection hh with e1 e2
              have HD2 := Lib.hid (show l.drop (j + 1) = toks b g (at_ + 1) ∧ b.length ≤ g + (at_ + 1) from ⟨e2, hg⟩)
              rw [e1, AR.out at_ (by omega)] at t0
              rw [e1] at t1 t2
              simp only at t0 t1 t2
              have s3 : ¬ (3 : Int) ≤ (r : Int) := by omega
              obtain ⟨r2, hr2⟩ : ∃ r2, r2 = r - 1 := ⟨_, rfl⟩
              have s5 : (r : Int) - 1 = (r2 : Int) := by omega
              have hne : ((c.toNat : Int) != (c.toNat : Int)) = false := by simp
              have HRR := Lib.hid (show r2 + max (at_ + 1) 1 = i ∧ at_ + 1 ≤ i by omega)
              clear hdr hst e1 e2 hg hlong h0 hr2 h3 hj0
              go_wp2_with fail
              go_roundg (l.length - (j + 1))
              case measure => omega
              case rel => exact ⟨j + 1, at_ + 1, g, r2, rfl, by omega, by go_num, rfl, HRR.out.1, HRR.out.2, by omega, Lib.hid HD2.out, HK5.out⟩
        · have HE : at_ = b.length := by
            by_cases cc : at_ < b.length
            · have h1 := HD.out.1
              rw [List.drop_eq_nil_of_le (by omega)] at h1
              by_cases e : (long b at_).1 = 0
              · obtain ⟨g, -, hst⟩ := toks_lit cc HD.out.2 e
                rw [hst] at h1; cases h1
              · obtain ⟨g, -, hst⟩ := toks_match cc HD.out.2 e
                rw [hst] at h1; cases h1
            · omega
          have hr0 : r = 0 := by omega
          subst hr0
          go_wp2_with fail
          go_ret
          exact ⟨rfl, K5.out.trans HK5.out⟩

end Go.Proofs.Ytpplboihlndfpaa
