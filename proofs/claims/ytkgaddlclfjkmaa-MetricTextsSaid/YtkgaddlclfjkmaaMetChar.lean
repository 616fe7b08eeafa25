/-
  A character: whether it stands alone as a byte, and the one with which pairs of bytes begin.
-/
import Derived.Test.YtkgaddlclfjkmaaKept
import Derived.Test.YtkgaddlclfjkmaaFixWalks
import Derived.Test.YtkgaddlclfjkmaaMetMath
import Derived.WalkSpells
import Derived.BigQuiet
import Derived.Deep.QuietTactic
import Derived.OwnWalk
namespace Go.Proofs.Ytkgaddlclfjkmaa
open Go.RowKit
set_option linter.unusedSimpArgs false
set_option linter.unusedVariables false

theorem Mt.alone_ways (r : Nat) : (r = 9 ∧ Mt.alone r = true) ∨ (r = 10 ∧ Mt.alone r = true) ∨ (r = 13 ∧ Mt.alone r = true) ∨ ((32 ≤ r ∧ r ≤ 126) ∧ Mt.alone r = true) ∨ ((161 ≤ r ∧ r ≤ 255 ∧ r ≠ 173) ∧ Mt.alone r = true) ∨
    ((r < 32 ∧ r ≠ 9 ∧ r ≠ 10 ∧ r ≠ 13) ∧ Mt.alone r = false) ∨ ((126 < r ∧ r < 161) ∧ Mt.alone r = false) ∨ (r = 173 ∧ Mt.alone r = false) ∨ (255 < r ∧ Mt.alone r = false) := by
  by_cases h1 : r = 9
  · exact .inl ⟨h1, by rw [h1]; rfl⟩
  by_cases h2 : r = 10
  · exact .inr (.inl ⟨h2, by rw [h2]; rfl⟩)
  by_cases h3 : r = 13
  · exact .inr (.inr (.inl ⟨h3, by rw [h3]; rfl⟩))
  by_cases h4 : r = 173
  · exact .inr (.inr (.inr (.inr (.inr (.inr (.inr (.inl ⟨h4, by rw [h4]; rfl⟩)))))))
  have n1 : (r == 9) = false := by simpa using h1
  have n2 : (r == 10) = false := by simpa using h2
  have n3 : (r == 13) = false := by simpa using h3
  have n4 : (r != 173) = true := by simpa using h4
  have hd : Mt.alone r = ((decide (32 ≤ r) && decide (r ≤ 126)) || (decide (161 ≤ r) && decide (r ≤ 255))) := by
    unfold Mt.alone; rw [n1, n2, n3, n4]; simp
  by_cases a : r < 32
  · refine .inr (.inr (.inr (.inr (.inr (.inl ⟨⟨a, h1, h2, h3⟩, ?_⟩)))))
    rw [hd, decide_eq_false (show ¬ 32 ≤ r by omega), decide_eq_false (show ¬ 161 ≤ r by omega)]; rfl
  by_cases b : r ≤ 126
  · refine .inr (.inr (.inr (.inl ⟨⟨by omega, b⟩, ?_⟩)))
    rw [hd, decide_eq_true (show 32 ≤ r by omega), decide_eq_true b]; rfl
  by_cases c : r < 161
  · refine .inr (.inr (.inr (.inr (.inr (.inr (.inl ⟨⟨by omega, c⟩, ?_⟩))))))
    rw [hd, decide_eq_false (show ¬ r ≤ 126 by omega), decide_eq_false (show ¬ 161 ≤ r by omega)]; simp
  by_cases d : r ≤ 255
  · refine .inr (.inr (.inr (.inr (.inl ⟨⟨by omega, d, h4⟩, ?_⟩))))
    rw [hd, decide_eq_true (show 161 ≤ r by omega), decide_eq_true d]; simp
  · refine .inr (.inr (.inr (.inr (.inr (.inr (.inr (.inr ⟨by omega, ?_⟩)))))))
    rw [hd, decide_eq_false (show ¬ r ≤ 126 by omega), decide_eq_false d]; simp

set_option maxRecDepth 100000 in
theorem isAlone_any (r : Nat) (w : World) (hr : r ≤ 1114111) :
    Calls Try.prog 25 #[.int .i32 r] w fun e w' => e = .returned (.bool (Mt.alone r)) ∧ w = w' := by
  obtain ⟨a, ha⟩ : ∃ a, a = Mt.alone r := ⟨_, rfl⟩
  have ways := Mt.alone_ways r
  rw [← ha] at ways ⊢
  clear ha
  rcases ways with ⟨rfl, rfl⟩ | ⟨rfl, rfl⟩ | ⟨rfl, rfl⟩ | ⟨⟨h0, h1⟩, rfl⟩ | ⟨⟨h0, h1, h2⟩, rfl⟩ | ⟨⟨h0, h1, h2, h3⟩, rfl⟩ | ⟨⟨h0, h1⟩, rfl⟩ | ⟨rfl, rfl⟩ | ⟨h0, rfl⟩
  all_goals
    first
      | (have z : r ≠ 9 ∧ r ≠ 10 ∧ r ≠ 13 := by omega
         have e1 : ((r : Int) == 9) = false := by rw [beq_eq_false_iff_ne]; omega
         have e2 : ((r : Int) == 10) = false := by rw [beq_eq_false_iff_ne]; omega
         have e3 : ((r : Int) == 13) = false := by rw [beq_eq_false_iff_ne]; omega
         clear z)
      | skip
    try (have e4 : ((r : Int) != 173) = true := by (rw [bne_iff_ne]; omega))
    try clear h3
    try clear h2
    go_enter Try.func25, Try.ntmps25
    go_wp2_with fail
    all_goals
      go_ret
      exact ⟨rfl, rfl⟩

theorem or_i32 {a b : Nat} (ha : a < 256) (hb : b < 256) : bits BinOp.or IntKind.i32 ((a : Int) * 256) (b : Int) = ((a * 256 + b : Nat) : Int) := by
  have e : ((a : Int) * 256) = ((a * 256 : Nat) : Int) := by omega
  rw [e]
  show IntKind.i32.wrap ((BitVec.ofInt 32 ((a * 256 : Nat) : Int) ||| BitVec.ofInt 32 (b : Int)).toNat : Int) = _
  rw [BitVec.ofInt_natCast, BitVec.ofInt_natCast, BitVec.toNat_or, BitVec.toNat_ofNat, BitVec.toNat_ofNat, Nat.mod_eq_of_lt (by omega), Nat.mod_eq_of_lt (by omega)]
  have := Nat.two_pow_add_eq_or_of_lt (i := 8) (b := b) (by omega) a
  rw [Nat.mul_comm a 256, show (256 : Nat) = 2 ^ 8 by decide, ← this]
  have h : (2 ^ 8 * a + b : Nat) < 65536 := by omega
  unfold IntKind.wrap
  simp [IntKind.bits, IntKind.signed]
  omega

set_option maxRecDepth 100000 in
theorem firstPair_any (a b : UInt8) (l : List UInt8) (w : World) (hl : l.length ≤ 4294967296) :
    Calls Try.prog 49 #[.string ⟨(a :: b :: l).toArray⟩] w fun e w' => e = .returned (.int .i32 (Mt.num2 a b)) ∧ Kept w w' := by
  have hs : (⟨(a :: b :: l).toArray⟩ : ByteArray).size = l.length + 2 := by simp [ByteArray.size]
  have g0 : (0 : Int) < ((⟨(a :: b :: l).toArray⟩ : ByteArray).size : Int) := by rw [hs]; omega
  have g1 : (1 : Int) < ((⟨(a :: b :: l).toArray⟩ : ByteArray).size : Int) := by rw [hs]; omega
  have i0 : (⟨(a :: b :: l).toArray⟩ : ByteArray)[0]'(by rw [hs]; omega) = a := rfl
  have i1 : (⟨(a :: b :: l).toArray⟩ : ByteArray)[1]'(by rw [hs]; omega) = b := rfl
  obtain ⟨s, hss⟩ : ∃ s, s = (⟨(a :: b :: l).toArray⟩ : ByteArray) := ⟨_, rfl⟩
  obtain ⟨x, hx⟩ : ∃ x, x = a.toNat := ⟨_, rfl⟩
  obtain ⟨y, hy⟩ : ∃ y, y = b.toNat := ⟨_, rfl⟩
  have hx1 : x < 256 := by rw [hx]; exact a.toNat_lt
  have hy1 : y < 256 := by rw [hy]; exact b.toNat_lt
  have HO := Lib.hid (or_i32 hx1 hy1)
  have HN := Lib.hid (show Mt.num2 a b = x * 256 + y by rw [hx, hy]; rfl)
  go_enter Try.func49, Try.ntmps49
  go_wp2_with fail
  go_quiet (fail)
  go_wp2_with fail
  go_ret
  rw [hx, hy] at HO
  exact ⟨by rw [HN.out, hx, hy, ← HO.out]; rfl, by repeat (with_reducible first | exact Kept.refl _ | refine Kept.drewN ?_ _)⟩

theorem Mt.text_drop (l : List UInt8) (k n : Nat) (h : n = l.length) : (⟨l.toArray⟩ : ByteArray).extract k n = ⟨(l.drop k).toArray⟩ := by
  subst h
  apply ByteArray.ext
  apply Array.toList_inj.1
  simp only [ByteArray.data_extract, Array.toList_extract, List.extract_eq_take_drop]
  rw [List.take_of_length_le (by rw [List.length_drop]; exact Nat.le_refl _)]
theorem Mt.text_size (l : List UInt8) : (⟨l.toArray⟩ : ByteArray).size = l.length := by simp [ByteArray.size]

def Mt.low2 (n : Nat) : List UInt8 → Nat × Nat
  | c :: d :: _ => if 56320 ≤ Mt.num2 c d ∧ Mt.num2 c d ≤ 57343 then (65536 + (n - 55296) * 1024 + (Mt.num2 c d - 56320), 4) else (65533, 2)
  | _ => (65533, 2)
theorem Mt.fstC_two (a b : UInt8) (t : List UInt8) : Mt.fstC (a :: b :: t) = (if Mt.num2 a b < 55296 ∨ 57343 < Mt.num2 a b then (Mt.num2 a b, 2) else if Mt.num2 a b < 56320 then Mt.low2 (Mt.num2 a b) t else (65533, 2)) := by
  match t with
  | [] => rfl
  | [_] => rfl
  | _ :: _ :: _ => rfl

set_option maxRecDepth 100000 in
theorem firstChar_any (l : List UInt8) (w : World) (hl : l.length ≤ 4294967296) :
    Calls Try.prog 43 #[.string ⟨l.toArray⟩] w fun e w' => e = .returned (.tuple #[.int .i32 (Mt.fstC l).1, .int .i64 (Mt.fstC l).2]) ∧ Kept w w' := by
  match l, hl with
  | [], hl =>
    go_enter Try.func43, Try.ntmps43
    go_wp2_with fail
    go_ret2
    exact ⟨rfl, Kept.refl _⟩
  | [a], hl =>
    go_enter Try.func43, Try.ntmps43
    go_wp2_with fail
    go_ret2
    exact ⟨rfl, Kept.refl _⟩
  | a :: b :: t, hl =>
    have hsz : (⟨(a :: b :: t).toArray⟩ : ByteArray).size = t.length + 2 := by simp [ByteArray.size]
    have FP := Lib.hid (firstPair_any a b t w (by simp at hl; omega))
    have hn1 := Mt.num2_lt a b
    obtain ⟨S, hS⟩ : ∃ S, S = (⟨(a :: b :: t).toArray⟩ : ByteArray) := ⟨_, rfl⟩
    obtain ⟨F, hF⟩ : ∃ F, F = Mt.fstC (a :: b :: t) := ⟨_, rfl⟩
    rw [← hF] at ⊢
    have HFV := Lib.hid (hF.trans (Mt.fstC_two a b t))
    clear hF
    obtain ⟨n, hn⟩ : ∃ n, n = Mt.num2 a b := ⟨_, rfl⟩
    rw [← hn] at FP hn1 HFV
    clear hn
    obtain ⟨z, hz⟩ : ∃ z : Int, z = (n : Int) := ⟨_, rfl⟩
    rw [← hz] at FP
    have HZ := Lib.hid hz
    have HN1 := Lib.hid hn1
    clear hz hn1
    have hL := Lib.hid hl
    simp only [List.length_cons] at hl
    rw [← hS] at FP hsz ⊢
    have HSS := Lib.hid hS
    clear hS
    by_cases h1 : z < 55296
    · have HV := Lib.hid (show F = (n, 2) by have := HZ.out; rw [HFV.out, if_pos (by omega)])
      go_enter Try.func43, Try.ntmps43
      go_wp2_with fail
      (with_reducible refine FP.out.mono ?_)
      rintro e w1 ⟨rfl, hk1⟩
      have K1 := Lib.hid hk1
      clear hk1
      go_wp2_with fail
      go_ret2
      exact ⟨by rw [HV.out, HZ.out]; rfl, K1.out⟩
    by_cases h2 : 57343 < z
    · have HV := Lib.hid (show F = (n, 2) by have := HZ.out; rw [HFV.out, if_pos (by omega)])
      go_enter Try.func43, Try.ntmps43
      go_wp2_with fail
      (with_reducible refine FP.out.mono ?_)
      rintro e w1 ⟨rfl, hk1⟩
      have K1 := Lib.hid hk1
      clear hk1
      go_wp2_with fail
      go_ret2
      exact ⟨by rw [HV.out, HZ.out]; rfl, K1.out⟩
    by_cases h3 : ¬ z < 56320
    · have HV := Lib.hid (show F = (65533, 2) by have := HZ.out; rw [HFV.out, if_neg (by omega), if_neg (by omega)])
      go_enter Try.func43, Try.ntmps43
      go_wp2_with fail
      (with_reducible refine FP.out.mono ?_)
      rintro e w1 ⟨rfl, hk1⟩
      have K1 := Lib.hid hk1
      clear hk1
      go_wp2_with fail
      go_ret2
      exact ⟨by rw [HV.out]; rfl, K1.out⟩
    have h4 : z < 56320 := by omega
    clear h3
    have HFV1 := Lib.hid (show F = Mt.low2 n t by have := HZ.out; rw [HFV.out, if_neg (by omega), if_pos (by omega)])
    clear HFV
    rcases t with _ | ⟨c, _ | ⟨d, t⟩⟩
    · have HV := Lib.hid (show F = (65533, 2) from HFV1.out)
      simp only [List.length_nil] at hsz
      go_enter Try.func43, Try.ntmps43
      go_wp2_with fail
      (with_reducible refine FP.out.mono ?_)
      rintro e w1 ⟨rfl, hk1⟩
      have K1 := Lib.hid hk1
      clear hk1
      go_wp2_with fail
      go_ret2
      exact ⟨by rw [HV.out]; rfl, K1.out⟩
    · have HV := Lib.hid (show F = (65533, 2) from HFV1.out)
      simp only [List.length_cons, List.length_nil] at hsz
      go_enter Try.func43, Try.ntmps43
      go_wp2_with fail
      (with_reducible refine FP.out.mono ?_)
      rintro e w1 ⟨rfl, hk1⟩
      have K1 := Lib.hid hk1
      clear hk1
      go_wp2_with fail
      go_ret2
      exact ⟨by rw [HV.out]; rfl, K1.out⟩
    · simp only [List.length_cons] at hsz
      have FQ := Lib.hid (fun wx => firstPair_any c d t wx (by simp at hl; omega))
      have hq1 := Mt.num2_lt c d
      have HFV2 := Lib.hid (show F = (if 56320 ≤ Mt.num2 c d ∧ Mt.num2 c d ≤ 57343 then (65536 + (n - 55296) * 1024 + (Mt.num2 c d - 56320), 4) else (65533, 2)) from HFV1.out)
      have HEX := Lib.hid (show S.extract 2 S.size = ⟨(c :: d :: t).toArray⟩ by rw [HSS.out]; exact Mt.text_drop (a :: b :: c :: d :: t) 2 _ (Mt.text_size _))
      clear HFV1
      obtain ⟨q, hq⟩ : ∃ q, q = Mt.num2 c d := ⟨_, rfl⟩
      rw [← hq] at FQ hq1 HFV2
      clear hq
      obtain ⟨y, hy⟩ : ∃ y : Int, y = (q : Int) := ⟨_, rfl⟩
      rw [← hy] at FQ
      have HY := Lib.hid hy
      have HQ1 := Lib.hid hq1
      clear hy hq1
      rw [hsz] at HEX
      have hl4 : (4 : Int) ≤ (S.size : Int) := by rw [hsz]; omega
      by_cases g1 : y < 56320
      · have HV := Lib.hid (show F = (65533, 2) by have := HY.out; rw [HFV2.out, if_neg (by omega)])
        go_enter Try.func43, Try.ntmps43
        go_wp2_with fail
        (with_reducible refine FP.out.mono ?_)
        rintro e w1 ⟨rfl, hk1⟩
        have K1 := Lib.hid hk1
        clear hk1
        go_wp2_with fail
        rw [HEX.out]
        (with_reducible refine (FQ.out _).mono ?_)
        rintro e w2 ⟨rfl, hk2⟩
        have K2 := Lib.hid hk2
        clear hk2
        go_wp2_with fail
        go_ret2
        exact ⟨by rw [HV.out]; rfl, K1.out.trans K2.out⟩
      by_cases g2 : 57343 < y
      · have HV := Lib.hid (show F = (65533, 2) by have := HY.out; rw [HFV2.out, if_neg (by omega)])
        go_enter Try.func43, Try.ntmps43
        go_wp2_with fail
        (with_reducible refine FP.out.mono ?_)
        rintro e w1 ⟨rfl, hk1⟩
        have K1 := Lib.hid hk1
        clear hk1
        go_wp2_with fail
        rw [HEX.out]
        (with_reducible refine (FQ.out _).mono ?_)
        rintro e w2 ⟨rfl, hk2⟩
        have K2 := Lib.hid hk2
        clear hk2
        go_wp2_with fail
        go_ret2
        exact ⟨by rw [HV.out]; rfl, K1.out.trans K2.out⟩
      · have HV := Lib.hid (show F = (65536 + (n - 55296) * 1024 + (q - 56320), 4) by have := HY.out; rw [HFV2.out, if_pos (by omega)])
        have HI := Lib.hid (show ((65536 + (n - 55296) * 1024 + (q - 56320) : Nat) : Int) = 65536 + (z - 55296) * 1024 + (y - 56320) by have := HY.out; have := HZ.out; omega)
        go_enter Try.func43, Try.ntmps43
        go_wp2_with fail
        (with_reducible refine FP.out.mono ?_)
        rintro e w1 ⟨rfl, hk1⟩
        have K1 := Lib.hid hk1
        clear hk1
        go_wp2_with fail
        rw [HEX.out]
        (with_reducible refine (FQ.out _).mono ?_)
        rintro e w2 ⟨rfl, hk2⟩
        have K2 := Lib.hid hk2
        clear hk2
        go_wp2_with fail
        go_ret2
        refine ⟨?_, K1.out.trans K2.out⟩
        rw [HV.out]
        show _ = Ending.returned (.tuple #[.int .i32 ((65536 + (n - 55296) * 1024 + (q - 56320) : Nat) : Int), _])
        rw [HI.out]; rfl

end Go.Proofs.Ytkgaddlclfjkmaa
