/-
  A character: whether it stands alone as a byte, and the one with which pairs of bytes begin.
  How the library's builder of texts takes a character in this program: WriteRune's laying, by hand.
  Bytes of a call's own, or the marked ones of a constant text; what is laid behind them.
  Characters laid behind bytes: a pair, two pairs; a text's characters as bytes; Encode.
  A text's characters as bytes, or as pairs: Encode.
  A text string as UTF-8: Decode.
  The document's example of layer 13.
-/
import Derived.Test.YtakbhdhlcnpejaaXBase
import Derived.Test.YtakbhdhlcnpejaaFixWalks
import Derived.Test.YtakbhdhlcnpejaaMetS
import Derived.WalkSpells
import Derived.BigQuiet
import Derived.Deep.QuietTactic
import Derived.OwnWalk
import Derived.Test.YtakbhdhlcnpejaaShelf
import Derived.Shelf.Strings.BuilderRune
import Derived.Laws.AppendOwn
import Derived.Laws.OwnMore
import Derived.Laws.BytesArg
import Derived.Laws.IdiomStrings
import Derived.Lib.AppendStr
import Derived.Lib.AppendZeros
import Derived.Lib.SlBytesConst
import Derived.Lib.OthersKept
import Derived.Deep.AppendLies
import Derived.Sort.Grow
import Derived.Deep.LoopGhost
namespace Go.Proofs.Ytakbhdhlcnpejaa
open Go.RowKit
set_option linter.unusedSimpArgs false
set_option linter.unusedVariables false

theorem Mt.alone_ways (r : Nat) : (r = 9 ∧ Mt.alone r = true) ∨ (r = 10 ∧ Mt.alone r = true) ∨ (r = 13 ∧ Mt.alone r = true) ∨ ((32 ≤ r ∧ r ≤ 126) ∧ Mt.alone r = true) ∨ ((161 ≤ r ∧ r ≤ 255 ∧ r ≠ 173) ∧ Mt.alone r = true) ∨
    ((r < 32 ∧ r ≠ 9 ∧ r ≠ 10 ∧ r ≠ 13) ∧ Mt.alone r = false) ∨ ((126 < r ∧ r < 161) ∧ Mt.alone r = false) ∨ (r = 173 ∧ Mt.alone r = false) ∨ (255 < r ∧ Mt.alone r = false) := by
  by_cases h1 : r = 9
  · exact .inl ⟨h1, by rw [h1]; rfl⟩
  by_cases h2 : r = 10
  · exact .inr (.inl ⟨h2, by rw [h2]; rfl⟩)
  by_cases h3 : r = 13
  · exact .inr (.inr (.inl ⟨h3, by rw [h3]; rfl⟩))
  by_cases h4 : r = 173
  · exact .inr (.inr (.inr (.inr (.inr (.inr (.inr (.inl ⟨h4, by rw [h4]; rfl⟩)))))))
  have n1 : (r == 9) = false := by simpa using h1
  have n2 : (r == 10) = false := by simpa using h2
  have n3 : (r == 13) = false := by simpa using h3
  have n4 : (r != 173) = true := by simpa using h4
  have hd : Mt.alone r = ((decide (32 ≤ r) && decide (r ≤ 126)) || (decide (161 ≤ r) && decide (r ≤ 255))) := by
    unfold Mt.alone; rw [n1, n2, n3, n4]; simp
  by_cases a : r < 32
  · refine .inr (.inr (.inr (.inr (.inr (.inl ⟨⟨a, h1, h2, h3⟩, ?_⟩)))))
    rw [hd, decide_eq_false (show ¬ 32 ≤ r by omega), decide_eq_false (show ¬ 161 ≤ r by omega)]; rfl
  by_cases b : r ≤ 126
  · refine .inr (.inr (.inr (.inl ⟨⟨by omega, b⟩, ?_⟩)))
    rw [hd, decide_eq_true (show 32 ≤ r by omega), decide_eq_true b]; rfl
  by_cases c : r < 161
  · refine .inr (.inr (.inr (.inr (.inr (.inr (.inl ⟨⟨by omega, c⟩, ?_⟩))))))
    rw [hd, decide_eq_false (show ¬ r ≤ 126 by omega), decide_eq_false (show ¬ 161 ≤ r by omega)]; simp
  by_cases d : r ≤ 255
  · refine .inr (.inr (.inr (.inr (.inl ⟨⟨by omega, d, h4⟩, ?_⟩))))
    rw [hd, decide_eq_true (show 161 ≤ r by omega), decide_eq_true d]; simp
  · refine .inr (.inr (.inr (.inr (.inr (.inr (.inr (.inr ⟨by omega, ?_⟩)))))))
    rw [hd, decide_eq_false (show ¬ r ≤ 126 by omega), decide_eq_false d]; simp

set_option maxRecDepth 100000 in
theorem isAlone_any (r : Nat) (w : World) (hr : r ≤ 1114111) :
    Calls Try.prog 31 #[.int .i32 r] w fun e w' => e = .returned (.bool (Mt.alone r)) ∧ w = w' := by
  obtain ⟨a, ha⟩ : ∃ a, a = Mt.alone r := ⟨_, rfl⟩
  have ways := Mt.alone_ways r
  rw [← ha] at ways ⊢
  clear ha
  rcases ways with ⟨rfl, rfl⟩ | ⟨rfl, rfl⟩ | ⟨rfl, rfl⟩ | ⟨⟨h0, h1⟩, rfl⟩ | ⟨⟨h0, h1, h2⟩, rfl⟩ | ⟨⟨h0, h1, h2, h3⟩, rfl⟩ | ⟨⟨h0, h1⟩, rfl⟩ | ⟨rfl, rfl⟩ | ⟨h0, rfl⟩
  all_goals
    first
      | (have z : r ≠ 9 ∧ r ≠ 10 ∧ r ≠ 13 := by omega
         have e1 : ((r : Int) == 9) = false := by rw [beq_eq_false_iff_ne]; omega
         have e2 : ((r : Int) == 10) = false := by rw [beq_eq_false_iff_ne]; omega
         have e3 : ((r : Int) == 13) = false := by rw [beq_eq_false_iff_ne]; omega
         clear z)
      | skip
    try (have e4 : ((r : Int) != 173) = true := by (rw [bne_iff_ne]; omega))
    try clear h3
    try clear h2
    go_enter Try.func31, Try.ntmps31
    go_wp2_with fail
    all_goals
      go_ret
      exact ⟨rfl, rfl⟩

theorem or_i32 {a b : Nat} (ha : a < 256) (hb : b < 256) : bits BinOp.or IntKind.i32 ((a : Int) * 256) (b : Int) = ((a * 256 + b : Nat) : Int) := by
  have e : ((a : Int) * 256) = ((a * 256 : Nat) : Int) := by omega
  rw [e]
  show IntKind.i32.wrap ((BitVec.ofInt 32 ((a * 256 : Nat) : Int) ||| BitVec.ofInt 32 (b : Int)).toNat : Int) = _
  rw [BitVec.ofInt_natCast, BitVec.ofInt_natCast, BitVec.toNat_or, BitVec.toNat_ofNat, BitVec.toNat_ofNat, Nat.mod_eq_of_lt (by omega), Nat.mod_eq_of_lt (by omega)]
  have := Nat.two_pow_add_eq_or_of_lt (i := 8) (b := b) (by omega) a
  rw [Nat.mul_comm a 256, show (256 : Nat) = 2 ^ 8 by decide, ← this]
  have h : (2 ^ 8 * a + b : Nat) < 65536 := by omega
  unfold IntKind.wrap
  simp [IntKind.bits, IntKind.signed]
  omega

set_option maxRecDepth 100000 in
theorem firstPair_any (a b : UInt8) (l : List UInt8) (w : World) (hl : l.length ≤ 4294967296) :
    Calls Try.prog 53 #[.string ⟨(a :: b :: l).toArray⟩] w fun e w' => e = .returned (.int .i32 (Mt.num2 a b)) ∧ Kept w w' := by
  have hs : (⟨(a :: b :: l).toArray⟩ : ByteArray).size = l.length + 2 := by simp [ByteArray.size]
  have g0 : (0 : Int) < ((⟨(a :: b :: l).toArray⟩ : ByteArray).size : Int) := by rw [hs]; omega
  have g1 : (1 : Int) < ((⟨(a :: b :: l).toArray⟩ : ByteArray).size : Int) := by rw [hs]; omega
  have i0 : (⟨(a :: b :: l).toArray⟩ : ByteArray)[0]'(by rw [hs]; omega) = a := rfl
  have i1 : (⟨(a :: b :: l).toArray⟩ : ByteArray)[1]'(by rw [hs]; omega) = b := rfl
  obtain ⟨s, hss⟩ : ∃ s, s = (⟨(a :: b :: l).toArray⟩ : ByteArray) := ⟨_, rfl⟩
  obtain ⟨x, hx⟩ : ∃ x, x = a.toNat := ⟨_, rfl⟩
  obtain ⟨y, hy⟩ : ∃ y, y = b.toNat := ⟨_, rfl⟩
  have hx1 : x < 256 := by rw [hx]; exact a.toNat_lt
  have hy1 : y < 256 := by rw [hy]; exact b.toNat_lt
  have HO := Lib.hid (or_i32 hx1 hy1)
  have HN := Lib.hid (show Mt.num2 a b = x * 256 + y by rw [hx, hy]; rfl)
  go_enter Try.func53, Try.ntmps53
  go_wp2_with fail
  go_quiet (fail)
  go_wp2_with fail
  go_ret
  rw [hx, hy] at HO
  exact ⟨by rw [HN.out, hx, hy, ← HO.out]; rfl, by repeat (with_reducible first | exact Kept.refl _ | refine Kept.drewN ?_ _)⟩

theorem Mt.text_drop (l : List UInt8) (k n : Nat) (h : n = l.length) : (⟨l.toArray⟩ : ByteArray).extract k n = ⟨(l.drop k).toArray⟩ := by
  subst h
  apply ByteArray.ext
  apply Array.toList_inj.1
  simp only [ByteArray.data_extract, Array.toList_extract, List.extract_eq_take_drop]
  rw [List.take_of_length_le (by rw [List.length_drop]; exact Nat.le_refl _)]
theorem Mt.text_size (l : List UInt8) : (⟨l.toArray⟩ : ByteArray).size = l.length := by simp [ByteArray.size]

def Mt.low2 (n : Nat) : List UInt8 → Nat × Nat
  | c :: d :: _ => if 56320 ≤ Mt.num2 c d ∧ Mt.num2 c d ≤ 57343 then (65536 + (n - 55296) * 1024 + (Mt.num2 c d - 56320), 4) else (65533, 2)
  | _ => (65533, 2)
theorem Mt.fstC_two (a b : UInt8) (t : List UInt8) : Mt.fstC (a :: b :: t) = (if Mt.num2 a b < 55296 ∨ 57343 < Mt.num2 a b then (Mt.num2 a b, 2) else if Mt.num2 a b < 56320 then Mt.low2 (Mt.num2 a b) t else (65533, 2)) := by
  match t with
  | [] => rfl
  | [_] => rfl
  | _ :: _ :: _ => rfl

set_option maxRecDepth 100000 in
theorem firstChar_any (l : List UInt8) (w : World) (hl : l.length ≤ 4294967296) :
    Calls Try.prog 44 #[.string ⟨l.toArray⟩] w fun e w' => e = .returned (.tuple #[.int .i32 (Mt.fstC l).1, .int .i64 (Mt.fstC l).2]) ∧ Kept w w' := by
  match l, hl with
  | [], hl =>
    go_enter Try.func44, Try.ntmps44
    go_wp2_with fail
    go_ret2
    exact ⟨rfl, Kept.refl _⟩
  | [a], hl =>
    go_enter Try.func44, Try.ntmps44
    go_wp2_with fail
    go_ret2
    exact ⟨rfl, Kept.refl _⟩
  | a :: b :: t, hl =>
    have hsz : (⟨(a :: b :: t).toArray⟩ : ByteArray).size = t.length + 2 := by simp [ByteArray.size]
    have FP := Lib.hid (firstPair_any a b t w (by simp at hl; omega))
    have hn1 := Mt.num2_lt a b
    obtain ⟨S, hS⟩ : ∃ S, S = (⟨(a :: b :: t).toArray⟩ : ByteArray) := ⟨_, rfl⟩
    obtain ⟨F, hF⟩ : ∃ F, F = Mt.fstC (a :: b :: t) := ⟨_, rfl⟩
    rw [← hF] at ⊢
    have HFV := Lib.hid (hF.trans (Mt.fstC_two a b t))
    clear hF
    obtain ⟨n, hn⟩ : ∃ n, n = Mt.num2 a b := ⟨_, rfl⟩
    rw [← hn] at FP hn1 HFV
    clear hn
    obtain ⟨z, hz⟩ : ∃ z : Int, z = (n : Int) := ⟨_, rfl⟩
    rw [← hz] at FP
    have HZ := Lib.hid hz
    have HN1 := Lib.hid hn1
    clear hz hn1
    have hL := Lib.hid hl
    simp only [List.length_cons] at hl
    rw [← hS] at FP hsz ⊢
    have HSS := Lib.hid hS
    clear hS
    by_cases h1 : z < 55296
    · have HV := Lib.hid (show F = (n, 2) by have := HZ.out; rw [HFV.out, if_pos (by omega)])
      go_enter Try.func44, Try.ntmps44
      go_wp2_with fail
      (with_reducible refine FP.out.mono ?_)
      rintro e w1 ⟨rfl, hk1⟩
      have K1 := Lib.hid hk1
      clear hk1
      go_wp2_with fail
      go_ret2
      exact ⟨by rw [HV.out, HZ.out]; rfl, K1.out⟩
    by_cases h2 : 57343 < z
    · have HV := Lib.hid (show F = (n, 2) by have := HZ.out; rw [HFV.out, if_pos (by omega)])
      go_enter Try.func44, Try.ntmps44
      go_wp2_with fail
      (with_reducible refine FP.out.mono ?_)
      rintro e w1 ⟨rfl, hk1⟩
      have K1 := Lib.hid hk1
      clear hk1
      go_wp2_with fail
      go_ret2
      exact ⟨by rw [HV.out, HZ.out]; rfl, K1.out⟩
    by_cases h3 : ¬ z < 56320
    · have HV := Lib.hid (show F = (65533, 2) by have := HZ.out; rw [HFV.out, if_neg (by omega), if_neg (by omega)])
      go_enter Try.func44, Try.ntmps44
      go_wp2_with fail
      (with_reducible refine FP.out.mono ?_)
      rintro e w1 ⟨rfl, hk1⟩
      have K1 := Lib.hid hk1
      clear hk1
      go_wp2_with fail
      go_ret2
      exact ⟨by rw [HV.out]; rfl, K1.out⟩
    have h4 : z < 56320 := by omega
    clear h3
    have HFV1 := Lib.hid (show F = Mt.low2 n t by have := HZ.out; rw [HFV.out, if_neg (by omega), if_pos (by omega)])
    clear HFV
    rcases t with _ | ⟨c, _ | ⟨d, t⟩⟩
    · have HV := Lib.hid (show F = (65533, 2) from HFV1.out)
      simp only [List.length_nil] at hsz
      go_enter Try.func44, Try.ntmps44
      go_wp2_with fail
      (with_reducible refine FP.out.mono ?_)
      rintro e w1 ⟨rfl, hk1⟩
      have K1 := Lib.hid hk1
      clear hk1
      go_wp2_with fail
      go_ret2
      exact ⟨by rw [HV.out]; rfl, K1.out⟩
    · have HV := Lib.hid (show F = (65533, 2) from HFV1.out)
      simp only [List.length_cons, List.length_nil] at hsz
      go_enter Try.func44, Try.ntmps44
      go_wp2_with fail
      (with_reducible refine FP.out.mono ?_)
      rintro e w1 ⟨rfl, hk1⟩
      have K1 := Lib.hid hk1
      clear hk1
      go_wp2_with fail
      go_ret2
      exact ⟨by rw [HV.out]; rfl, K1.out⟩
    · simp only [List.length_cons] at hsz
      have FQ := Lib.hid (fun wx => firstPair_any c d t wx (by simp at hl; omega))
      have hq1 := Mt.num2_lt c d
      have HFV2 := Lib.hid (show F = (if 56320 ≤ Mt.num2 c d ∧ Mt.num2 c d ≤ 57343 then (65536 + (n - 55296) * 1024 + (Mt.num2 c d - 56320), 4) else (65533, 2)) from HFV1.out)
      have HEX := Lib.hid (show S.extract 2 S.size = ⟨(c :: d :: t).toArray⟩ by rw [HSS.out]; exact Mt.text_drop (a :: b :: c :: d :: t) 2 _ (Mt.text_size _))
      clear HFV1
      obtain ⟨q, hq⟩ : ∃ q, q = Mt.num2 c d := ⟨_, rfl⟩
      rw [← hq] at FQ hq1 HFV2
      clear hq
      obtain ⟨y, hy⟩ : ∃ y : Int, y = (q : Int) := ⟨_, rfl⟩
      rw [← hy] at FQ
      have HY := Lib.hid hy
      have HQ1 := Lib.hid hq1
      clear hy hq1
      rw [hsz] at HEX
      have hl4 : (4 : Int) ≤ (S.size : Int) := by rw [hsz]; omega
      by_cases g1 : y < 56320
      · have HV := Lib.hid (show F = (65533, 2) by have := HY.out; rw [HFV2.out, if_neg (by omega)])
        go_enter Try.func44, Try.ntmps44
        go_wp2_with fail
        (with_reducible refine FP.out.mono ?_)
        rintro e w1 ⟨rfl, hk1⟩
        have K1 := Lib.hid hk1
        clear hk1
        go_wp2_with fail
        rw [HEX.out]
        (with_reducible refine (FQ.out _).mono ?_)
        rintro e w2 ⟨rfl, hk2⟩
        have K2 := Lib.hid hk2
        clear hk2
        go_wp2_with fail
        go_ret2
        exact ⟨by rw [HV.out]; rfl, K1.out.trans K2.out⟩
      by_cases g2 : 57343 < y
      · have HV := Lib.hid (show F = (65533, 2) by have := HY.out; rw [HFV2.out, if_neg (by omega)])
        go_enter Try.func44, Try.ntmps44
        go_wp2_with fail
        (with_reducible refine FP.out.mono ?_)
        rintro e w1 ⟨rfl, hk1⟩
        have K1 := Lib.hid hk1
        clear hk1
        go_wp2_with fail
        rw [HEX.out]
        (with_reducible refine (FQ.out _).mono ?_)
        rintro e w2 ⟨rfl, hk2⟩
        have K2 := Lib.hid hk2
        clear hk2
        go_wp2_with fail
        go_ret2
        exact ⟨by rw [HV.out]; rfl, K1.out.trans K2.out⟩
      · have HV := Lib.hid (show F = (65536 + (n - 55296) * 1024 + (q - 56320), 4) by have := HY.out; rw [HFV2.out, if_pos (by omega)])
        have HI := Lib.hid (show ((65536 + (n - 55296) * 1024 + (q - 56320) : Nat) : Int) = 65536 + (z - 55296) * 1024 + (y - 56320) by have := HY.out; have := HZ.out; omega)
        go_enter Try.func44, Try.ntmps44
        go_wp2_with fail
        (with_reducible refine FP.out.mono ?_)
        rintro e w1 ⟨rfl, hk1⟩
        have K1 := Lib.hid hk1
        clear hk1
        go_wp2_with fail
        rw [HEX.out]
        (with_reducible refine (FQ.out _).mono ?_)
        rintro e w2 ⟨rfl, hk2⟩
        have K2 := Lib.hid hk2
        clear hk2
        go_wp2_with fail
        go_ret2
        refine ⟨?_, K1.out.trans K2.out⟩
        rw [HV.out]
        show _ = Ending.returned (.tuple #[.int .i32 ((65536 + (n - 55296) * 1024 + (q - 56320) : Nat) : Int), _])
        rw [HI.out]; rfl

end Go.Proofs.Ytakbhdhlcnpejaa

namespace Go.Proofs.Ytakbhdhlcnpejaa
open Go.RowKit
set_option linter.unusedSimpArgs false
set_option linter.unusedVariables false

def layR : Go.Shelf.Ren := ⟨fun | 168 => 32 | 240 => 45 | 242 => 46 | 276 => 54 | 278 => 55 | n => n, fun | 0 => 0 | 3 => 3 | 4 => 4 | 5 => 5 | 9 => 9 | 20 => 20 | 21 => 21 | 37 => 72 | 46 => 95 | 51 => 103 | 70 => 71 | 72 => 74 | 75 => 77 | 164 => 101 | 80 => 80 | n => n, fun | n => n⟩

theorem lays168 : Go.Proofs.Lays.n168 Try.prog layR := {
  mixed := by kernel_rfl
  f168 := Try.func32.trans (congrArg some (by kernel_rfl))
  f240 := Try.func45.trans (congrArg some (by kernel_rfl))
  f242 := Try.func46.trans (congrArg some (by kernel_rfl))
  f276 := Try.func54.trans (congrArg some (by kernel_rfl))
  f278 := Try.func55.trans (congrArg some (by kernel_rfl))
  t0 := Try.underlying0
  a0 := Try.isAgg0
  z0 := Try.sizeOf0
  v0 := Try.zeroValue0
  t3 := Try.underlying3
  a3 := Try.isAgg3
  z3 := Try.sizeOf3
  v3 := Try.zeroValue3
  t4 := Try.underlying4
  a4 := Try.isAgg4
  z4 := Try.sizeOf4
  v4 := Try.zeroValue4
  t5 := Try.underlying5
  a5 := Try.isAgg5
  z5 := Try.sizeOf5
  v5 := Try.zeroValue5
  t9 := Try.underlying9
  a9 := Try.isAgg9
  z9 := Try.sizeOf9
  v9 := Try.zeroValue9
  t20 := Try.underlying20
  a20 := Try.isAgg20
  z20 := Try.sizeOf20
  v20 := Try.zeroValue20
  t21 := Try.underlying21
  a21 := Try.isAgg21
  z21 := Try.sizeOf21
  v21 := Try.zeroValue21
  t37 := Try.underlying72
  a37 := Try.isAgg72
  z37 := Try.sizeOf72
  v37 := Try.zeroValue72
  t46 := Try.underlying95
  a46 := Try.isAgg95
  z46 := Try.sizeOf95
  v46 := Try.zeroValue95
  t51 := Try.underlying103
  a51 := Try.isAgg103
  z51 := Try.sizeOf103
  v51 := Try.zeroValue103
  t70 := Try.underlying71
  a70 := Try.isAgg71
  z70 := Try.sizeOf71
  v70 := Try.zeroValue71
  t72 := Try.underlying74
  a72 := Try.isAgg74
  z72 := Try.sizeOf74
  v72 := Try.zeroValue74
  t75 := Try.underlying77
  a75 := Try.isAgg77
  z75 := Try.sizeOf77
  v75 := Try.zeroValue77
  t164 := Try.underlying101
  a164 := Try.isAgg101
  z164 := Try.sizeOf101
  v164 := Try.zeroValue101 }

theorem extra168 : Go.Proofs.Builder.Extra Try.prog layR := {
  sizeBuilder := by kernel_rfl
  liesBuilder := by kernel_rfl
  t5 := Try.underlying5
  a5 := Try.isAgg5
  z5 := Try.sizeOf5
  v5 := Try.zeroValue5
  infoByte := by kernel_rfl
  cellsByte := by kernel_rfl
  sizeByte := by kernel_rfl
  neB5 := by decide }

theorem writeRune_k (B b : Nat) (bs : List Value) (r : Int) (hr0 : -2147483648 ≤ r) (hr1 : r ≤ 2147483647) (w : World) (h : Lib.IsBuilderF 74 5 B b bs w) (hlen : bs.length + 4 ≤ 140737488355328) (hBw : B ≤ w.heap.size) :
    Calls Try.prog 32 #[.pointer (some ⟨b, 0, none⟩), .int .i32 r] w fun e w' => e = .returned (.tuple #[.int .i64 (Lib.runeCells r).length, .nilIface]) ∧ (Lib.BuilderAtF 74 5 B b (.pointer (some ⟨b, 0, none⟩)) (bs ++ Lib.runeCells r) w' ∧ Below B w w' ∧ Lib.OthersKept 5 (some b) w w') :=
  Go.Proofs.Any.Builder_WriteRune_k lays168 extra168 B b bs r hr0 hr1 w h hlen hBw

end Go.Proofs.Ytakbhdhlcnpejaa

namespace Go.Proofs.Ytakbhdhlcnpejaa
open Go.RowKit
set_option linter.unusedSimpArgs false
set_option linter.unusedVariables false

theorem Mt.info_u8 : (Try.prog.info? 5).map (fun i => (i.zero, i.size, i.bytes)) = some (some (.int .u8 0), 1, 1) := by kernel_rfl
/-- Bytes of a call's own. -/
def OwB (w : World) (B : Nat) (v : Value) (l : List UInt8) : Prop := w.ownsRow B 5 1 v l.length (Lib.byteCells l)
/-- A full row that can be read; what owns it is not said. -/
def MkB (w : World) (v : Value) (l : List UInt8) : Prop :=
  ∃ g, v = .slice (some ⟨g, 0, none⟩) l.length l.length ∧ g < w.heap.size ∧ ∀ j u, (Lib.byteCells l)[j]? = some u → w.cell? ⟨g, j, none⟩ = some u
def BV (w : World) (B : Nat) (v : Value) (l : List UInt8) : Prop := OwB w B v l ∨ MkB w v l

theorem OwB.nil (w : World) (B : Nat) : OwB w B (.slice none 0 0) [] := World.ownsRow_nil _ _ _ _
theorem OwB.lt {w : World} {B : Nat} {v : Value} {l : List UInt8} (h : OwB w B v l) : ∀ k, v.ownBlock = some k → B ≤ k ∧ k < w.heap.size := World.ownsRow.lt h
theorem OwB.gb {w w' : World} {B : Nat} {v : Value} {l : List UInt8} (h : OwB w B v l) {r : Option Nat} (g : w.grownBy w' r) (hne : v.ownBlock = none ∨ v.ownBlock ≠ r) : OwB w' B v l := World.ownsRow.kept h g hne
theorem OwB.alloc {w : World} {B : Nat} {v : Value} {l : List UInt8} (h : OwB w B v l) (o : Obj) : OwB (w.alloc o) B v l := World.ownsRow.alloc h o
theorem OwB.drew {w : World} {B : Nat} {v : Value} {l : List UInt8} (h : OwB w B v l) : OwB w.drew B v l := h
theorem OwB.kind {w : World} {B : Nat} {v : Value} {l : List UInt8} (h : OwB w B v l) : ∀ g, v.ownBlock = some g → ∃ c fz, w.heap[g]? = some (.cells c 5 fz) := by
  intro g hg
  rcases h.2 with ⟨rfl, _⟩ | ⟨g', cap, cur, rfl, _, hh, _⟩
  · simp [Value.ownBlock] at hg
  · simp only [Value.ownBlock, Option.some.injEq] at hg
    subst hg
    exact ⟨cur, _, hh⟩
theorem OwB.string {w : World} {B : Nat} {v : Value} {l : List UInt8} (h : OwB w B v l) : (convert 72 9 v).run Try.prog w = .ok (.string ⟨l.toArray⟩) w := by
  rcases h.2 with ⟨rfl, h0⟩ | ⟨g, cap, cur, hv, _⟩
  · obtain rfl := List.length_eq_zero_iff.1 h0
    exact run_convert_bytes_nil (P := Try.prog) w 72 5 Try.underlying72 Try.underlying5 0 0 _ Try.underlying9
  · have hc := World.ownsRow.cells (g := g) h (by rw [hv]; rfl)
    subst hv
    refine run_convert_bytes_back (P := Try.prog) w 72 9 5 ⟨g, 0, none⟩ cap l Try.underlying72 Try.underlying5 Try.underlying9 fun j hj => ?_
    exact hc j _ (by simp [Lib.byteCells, hj])
theorem MkB.below {w w' : World} {v : Value} {l : List UInt8} (h : MkB w v l) (k : Below w.heap.size w w') : MkB w' v l := by
  obtain ⟨g, h2, h3, h4⟩ := h
  exact ⟨g, h2, Nat.lt_of_lt_of_le h3 k.size, fun j u hj => by rw [← h4 j u hj]; exact k.cell (p := ⟨g, _, none⟩) h3⟩
theorem MkB.new (w : World) (l : List UInt8) (C : Array Value) (hC : C.toList = Lib.byteCells l) (fr : Nat × Nat) : MkB (w.alloc (.cells C 5 fr)) (.slice (some ⟨w.heap.size, 0, none⟩) l.length l.length) l := by
  refine ⟨w.heap.size, rfl, by simp, fun j u hj => ?_⟩
  rw [World.cell?_alloc_mark, ← Array.getElem?_toList, hC]
  exact hj
theorem MkB.string {w : World} {v : Value} {l : List UInt8} (h : MkB w v l) : (convert 72 9 v).run Try.prog w = .ok (.string ⟨l.toArray⟩) w := by
  obtain ⟨g, rfl, -, hc⟩ := h
  refine run_convert_bytes_back (P := Try.prog) w 72 9 5 ⟨g, 0, none⟩ l.length l Try.underlying72 Try.underlying5 Try.underlying9 fun j hj => ?_
  rw [Addr.add_lit, Nat.zero_add]
  exact hc j _ (by simp [Lib.byteCells, hj])
theorem BV.string {w : World} {B : Nat} {v : Value} {l : List UInt8} (h : BV w B v l) : (convert 72 9 v).run Try.prog w = .ok (.string ⟨l.toArray⟩) w := h.elim (·.string) (·.string)

theorem mk_grownB (w : World) (B : Nat) (e : TypeId) (n m : Nat) (xs news : List Value) (hxl : xs.length = n) (hnl : news.length = m) (hm : 0 < m) (h63 : n + m ≤ maxLen) (hB : B ≤ w.heap.size) :
    (w.drew.alloc (.cells (xs.toArray ++ news.toArray ++ Builtin.zeroCells (Value.int .u8 0).cells (grownCap w (n + m) n e - (n + m))) e)).ownsRow B e 1
        (.slice (some ⟨w.heap.size, 0, none⟩) (n + m) (grownCap w (n + m) n e)) (n + m) (xs ++ news) ∧
      w.grownBy (w.drew.alloc (.cells (xs.toArray ++ news.toArray ++ Builtin.zeroCells (Value.int .u8 0).cells (grownCap w (n + m) n e - (n + m))) e)) none := by
  have hge := grownCap_ge w (n + m) n e
  have hcm : grownCap w (n + m) n e ≤ maxLen := grownCap_le_maxLen w (n + m) n e h63
  have hlen : (xs ++ news).length = (n + m) * 1 := by rw [List.length_append, hxl, hnl, Nat.mul_one]
  refine ⟨⟨hlen, .inr ⟨w.heap.size, _, _, rfl, hB, heap_alloc_new w.drew _, hge, hcm, ?_, ?_⟩⟩, ⟨rfl, rfl, rfl, by simp, fun k hk _ => heap_alloc_old w.drew _ hk⟩⟩
  · have hz1 : (Value.int IntKind.u8 0).cells.size = 1 := rfl
    simp only [Array.size_append, List.size_toArray, size_zeroCells, hz1, hxl, hnl]
    omega
  · simp only [Array.toList_append, List.append_assoc]
    rw [← List.append_assoc, ← hlen]
    exact List.take_left

/-- What is laid behind them. -/
def Behind (B : Nat) (w : World) (l : List UInt8) (v' : Value) (w' : World) : Prop := OwB w' B v' l ∧ Below B w w' ∧ Lib.OthersKept 5 none w w'

/-- Some bytes behind. -/
theorem wpList_app_bv {ops : Array Oper} {rest : List Oper} {o : Oper} {a : Act} {Q : Exit → Act → World → Prop} (hgd : o.guard = none) (s x : Operand)
    (ho : o.op = .call { callee := .builtin .append, args := #[s, x], argTypes := #[72, 72] })
    {W : World} {B : Nat} {v : Value} {l : List UInt8} (hown : BV W B v l) (hs : a.eval s = v) (news : List UInt8) (C : Array Value) (hC : C = (Lib.byteCells news).toArray) (m : Nat) (hm : m = news.length) (h0 : 0 < m)
    (hx : a.eval x = .slice (some ⟨W.heap.size, 0, none⟩) m m) (hB : B ≤ W.heap.size) (hlen : l.length + m ≤ 1099511627776)
    (h : ∀ v' w', Behind B W (l ++ news) v' w' → wpList Try.prog ops Q rest (a.put o.dst v') w') :
    wpList Try.prog ops Q (o :: rest) a (W.alloc (.cells C 5)) := by
  obtain ⟨i0, hi, hz0, hz1, hz2⟩ := info_parts Mt.info_u8
  subst hC
  have hcells : ∀ j u, (Lib.byteCells news)[j]? = some u → (W.alloc (.cells (Lib.byteCells news).toArray 5)).cell? ((⟨W.heap.size, 0, none⟩ : Addr).add j) = some u := by
    intro j u hj
    rw [Addr.add_lit, Nat.zero_add, (Blk.fresh W (Lib.byteCells news).toArray 5).cell j]
    simpa using hj
  have hnl : (Lib.byteCells news).length = m := by rw [Lib.byteCells_length, hm]
  rcases hown with hown | hown
  · have hk := hown.kind
    have hl0 := hown.lt
    refine wpList_append_lies _ hgd s x 72 ho B 5 i0 (.int .u8 0) 1 1 Try.underlying72 hi hz0 hz1 hz2 rfl (by decide) v l.length (Lib.byteCells l) hs (OwB.alloc hown _) ⟨W.heap.size, 0, none⟩ m m (Lib.byteCells news) hx (by rw [hnl, Nat.mul_one])
      hcells ?_ h0 (by unfold maxLen; omega) (by omega) (by simp; omega) _ rfl ?_
    · intro u hu
      simp only [Lib.byteCells, List.mem_map] at hu
      obtain ⟨b, -, rfl⟩ := hu
      rfl
    · intro g cap w' h1 h2 _ _
      refine h _ w' ⟨?_, ((Below.refl B W).alloc hB _).grown h2 (by simp; omega) (fun j hj => (hl0 j hj).1), ?_⟩
      · unfold OwB
        rw [Lib.byteCells_append, List.length_append, ← hm]
        exact h1
      · refine ((Lib.OthersKept.refl 5 none W).alloc _).grown h2 fun g hg => ?_
        obtain ⟨cc, fz, hh⟩ := hk g hg
        exact ⟨cc, fz, (heap_alloc_old W _ (hl0 g hg).2).trans hh⟩
  · obtain ⟨g, rfl, hg, hc⟩ := hown
    have hr := run_append_grow (P := Try.prog) (W.alloc (.cells (Lib.byteCells news).toArray 5)) 72 72 5 i0 (.int .u8 0) Try.underlying72 hi hz0 ⟨g, 0, none⟩ l.length l.length (Lib.byteCells l) (by rw [hz1, Lib.byteCells_length, Nat.mul_one])
      (fun j u hj => by
        rw [Addr.add_lit, Nat.zero_add]
        exact (((Below.refl _ W).alloc (Nat.le_refl _) _).cell (p := ⟨g, j, none⟩) hg).trans (hc j u hj))
      ⟨W.heap.size, 0, none⟩ m m (Lib.byteCells news) (by rw [hz1, hnl, Nat.mul_one]) hcells (by omega) (by omega) (by rw [hz2]; exact growslice_fits (by omega) (by omega))
    obtain ⟨h1, h2⟩ := mk_grownB (W.alloc (.cells (Lib.byteCells news).toArray 5)) B 5 l.length m (Lib.byteCells l) (Lib.byteCells news) (Lib.byteCells_length l) hnl h0 (by unfold maxLen; omega) (by simp; omega)
    refine Lib.wpList_append_run _ hgd _ _ 72 72 ho _ _ hs hx _ _ hr ?_
    refine h _ _ ⟨?_, ((Below.refl B W).alloc hB _).grown h2 (by simp; omega) (fun k hk => by cases hk), ((Lib.OthersKept.refl 5 none W).alloc _).grown h2 (fun k hk => by cases hk)⟩
    unfold OwB
    rw [Lib.byteCells_append, List.length_append, ← hm]
    exact h1

end Go.Proofs.Ytakbhdhlcnpejaa

namespace Go.Proofs.Ytakbhdhlcnpejaa
open Go.RowKit
set_option linter.unusedSimpArgs false
set_option linter.unusedVariables false

theorem Mt.byte_int (n : Nat) (z : Int) (h : z = (n : Int)) : ((n % 256).toUInt8.toNat : Int) = z % 256 := by
  subst h
  rw [Mt.u8_lit _ (by omega)]; omega

set_option maxRecDepth 100000 in
theorem appendPair_any (r : Nat) (B : Nat) (v : Value) (l : List UInt8) (w : World) (hv : BV w B v l) (hB : B ≤ w.heap.size) (hr : r ≤ 65535) (hl : l.length ≤ 1073741824) :
    Calls Try.prog 48 #[v, .int .i32 r] w fun e w' => ∃ v', e = .returned v' ∧ Behind B w (l ++ Mt.pair r) v' w' := by
  obtain ⟨z, hz⟩ : ∃ z : Int, z = (r : Int) := ⟨_, rfl⟩
  rw [← hz]
  have i0 : 0 ≤ z := by omega
  have i1 : z ≤ 65535 := by omega
  obtain ⟨x, hx⟩ : ∃ x : UInt8, x = (r / 256).toUInt8 := ⟨_, rfl⟩
  obtain ⟨y, hy⟩ : ∃ y : UInt8, y = (r % 256).toUInt8 := ⟨_, rfl⟩
  have HX := Lib.hid (show (x.toNat : Int) = z / 256 by rw [hx, Mt.u8_lit _ (by omega)]; omega)
  have HY := Lib.hid (show (y.toNat : Int) = z % 256 by rw [hy, Mt.u8_lit _ (by omega)]; omega)
  have HP := Lib.hid (show Mt.pair r = [x, y] by rw [hx, hy]; rfl)
  have HV := Lib.hid hv
  clear hx hy hz hv hr
  go_enter Try.func48, Try.ntmps48
  go_wp2_with (at_builtin; refine wpList_app_bv rfl _ _ rfl HV.out rfl [x, y] _ (by simp only [Lib.byteCells, List.map_cons, List.map_nil, HX.out, HY.out]) 2 rfl (by decide) rfl hB (by omega) ?_; intro v' w1 hb1)
  go_ret
  exact ⟨v', rfl, by rw [HP.out]; exact hb1⟩

theorem Behind.trans {B : Nat} {w w1 w2 : World} {l m : List UInt8} {v1 v2 : Value} (h : Behind B w l v1 w1) (k : Behind B w1 m v2 w2) : Behind B w m v2 w2 := ⟨k.1, h.2.1.trans k.2.1, h.2.2.trans k.2.2⟩

theorem and_i32 {n : Int} (h0 : 0 ≤ n) (h1 : n ≤ 2147483647) : bits .and .i32 n 1023 = n % 1024 := by
  have hc : (BitVec.ofInt 32 1023).toNat = 2 ^ 10 - 1 := by decide
  have hk : (BitVec.ofInt 32 n &&& BitVec.ofInt 32 1023).toNat = (n % ((2 ^ 32 : Nat) : Int)).toNat % 2 ^ 10 := by
    rw [BitVec.toNat_and, BitVec.toNat_ofInt, hc, Nat.and_two_pow_sub_one_eq_mod]
  show IntKind.i32.wrap ((BitVec.ofInt 32 n &&& BitVec.ofInt 32 1023).toNat : Nat) = n % 1024
  rw [hk]
  unfold IntKind.wrap
  simp [IntKind.bits, IntKind.signed]
  omega

set_option maxRecDepth 100000 in
theorem appendChar_any (r : Nat) (B : Nat) (v : Value) (l : List UInt8) (w : World) (hv : BV w B v l) (hB : B ≤ w.heap.size) (hr : Mt.okR r) (hl : l.length ≤ 1073741000) :
    Calls Try.prog 36 #[v, .int .i32 r] w fun e w' => ∃ v', e = .returned v' ∧ Behind B w (l ++ Mt.pairs1 r) v' w' := by
  unfold Mt.okR at hr
  by_cases h : r ≤ 65535
  · have C := Lib.hid (appendPair_any r B v l w hv hB h (by omega))
    have HP := Lib.hid (show Mt.pairs1 r = Mt.pair r by unfold Mt.pairs1; rw [if_pos h])
    obtain ⟨z, hz⟩ : ∃ z : Int, z = (r : Int) := ⟨_, rfl⟩
    rw [← hz] at C ⊢
    have i1 : z ≤ 65535 := by omega
    clear hv hr hz h
    go_enter Try.func36, Try.ntmps36
    go_wp2_with fail
    (with_reducible refine C.out.mono ?_)
    rintro e w1 ⟨v1, rfl, h1⟩
    have H1 := Lib.hid h1
    clear h1
    go_wp2_with fail
    go_ret
    exact ⟨v1, rfl, by rw [HP.out]; exact H1.out⟩
  · obtain ⟨a, ha⟩ : ∃ a, a = 55296 + (r - 65536) / 1024 := ⟨_, rfl⟩
    obtain ⟨b, hb⟩ : ∃ b, b = 56320 + (r - 65536) % 1024 := ⟨_, rfl⟩
    have HP := Lib.hid (show l ++ Mt.pairs1 r = l ++ Mt.pair a ++ Mt.pair b by unfold Mt.pairs1; rw [if_neg h, ← ha, ← hb, List.append_assoc])
    have C := Lib.hid (appendPair_any a B v l w hv hB (by omega) (by omega))
    have D := Lib.hid (fun v1 w1 (h1 : Behind B w (l ++ Mt.pair a) v1 w1) => appendPair_any b B v1 (l ++ Mt.pair a) w1 (.inl h1.1) (Nat.le_trans hB h1.2.1.size) (by omega) (by simp [Mt.pair]; omega))
    obtain ⟨z, hz⟩ : ∃ z : Int, z = (r : Int) := ⟨_, rfl⟩
    rw [← hz]
    have i0 : 65536 ≤ z := by omega
    have i1 : z ≤ 1114111 := by omega
    have i2 : ¬ z ≤ 65535 := by omega
    obtain ⟨y, hy⟩ : ∃ y : Int, y = z - 65536 := ⟨_, rfl⟩
    have j0 : 0 ≤ y := by omega
    have j1 : y ≤ 1048575 := by omega
    have e1 : z - 65536 = y := hy.symm
    have e2 := and_i32 j0 (by omega)
    have HA := Lib.hid (show ((a : Nat) : Int) = 55296 + y / 1024 by omega)
    have HB := Lib.hid (show ((b : Nat) : Int) = 56320 + y % 1024 by omega)
    rw [HA.out] at C
    rw [HB.out] at D
    clear hv hr hz h ha hb hy
    go_enter Try.func36, Try.ntmps36
    go_wp2_with fail
    (with_reducible refine C.out.mono ?_)
    rintro e w1 ⟨v1, rfl, h1⟩
    have H1 := Lib.hid h1
    clear h1
    go_wp2_with fail
    (with_reducible refine (D.out _ _ H1.out).mono ?_)
    rintro e w2 ⟨v2, rfl, h2⟩
    have H2 := Lib.hid (H1.out.trans h2)
    clear h2
    go_wp2_with fail
    go_ret
    exact ⟨v2, rfl, by rw [HP.out]; exact H2.out⟩

theorem OwB.iterAt {w : World} {B : Nat} {v : Value} {l : List UInt8} (h : OwB w B v l) {k : Nat} {s : ByteArray} {pos : Nat} (hk : w.heap[k]? = some (.stringIter s pos)) (pos' : Nat) : OwB (w.iterAt k s pos') B v l := by
  refine World.ownsRow.kept h (w' := w.iterAt k s pos') (row := some k) ⟨rfl, rfl, rfl, by rw [Lib.iterAt_size]; exact Nat.le_refl _, fun j _ hj => Lib.iterAt_other w k j s pos' (fun e => hj (by rw [e]))⟩ ?_
  cases hv : v.ownBlock with
  | none => exact .inl rfl
  | some g =>
    refine .inr fun e => ?_
    obtain ⟨c, fz, hh⟩ := h.kind g hv
    rw [Option.some.inj e, hk] at hh
    cases hh

set_option maxRecDepth 100000 in
theorem Bytes_any (u : ByteArray) (w : World) (hu : u.size ≤ 1073741000) :
    Calls Try.prog 34 #[.string u] w fun e w' => e = .returned (.tuple #[.string ⟨(Mt.bytesV u.data.toList).toArray⟩, .bool (Mt.bytesB u.data.toList)]) ∧ Kept w w' := by
  obtain ⟨L, hL⟩ : ∃ L, L = u.data.toList := ⟨_, rfl⟩
  have hlen : L.length = u.size := by rw [hL]; simp
  rw [← hL]
  have DR := Lib.hid (fun pos => (show Go.Lib.decodeL (L.drop pos) = Utf8.decode u pos by rw [hL]; exact Lib.decodeL_drop u pos))
  have HL := Lib.hid hlen
  clear hL hlen
  go_enter Try.func34, Try.ntmps34
  go_wp2_with fail
  go_loopg [4] (u.size + 1) (fun m x wr => ∃ (pos : Nat) (l : List Nat) (vv : Value), m = u.size + 1 - pos ∧ vv = x ∧ pos ≤ u.size ∧ OwB wr w.heap.size vv (Mt.asBytes l) ∧ Hid (Mt.runes L = l ++ Mt.runes (L.drop pos) ∧ ∀ r ∈ l, Mt.alone r = true) ∧ wr.heap[w.heap.size]? = some (.stringIter u pos) ∧ Kept w wr ∧ l.length ≤ pos)
  case atStart => exact ⟨0, [], _, by simp, rfl, Nat.zero_le _, (OwB.nil _ _), Lib.hid ⟨by simp, fun _ h => absurd h List.not_mem_nil⟩, World.iter_heap w u 0, (Kept.refl w).allocO _, Nat.le_refl _⟩
  case round =>
    obtain ⟨pos, l, vv, hm, rfl, hp, ho, HR, hit, hk, hlp⟩ := hrel
    have HO := Lib.hid ho
    have HI := Lib.hid hit
    have HK := Lib.hid hk
    have hsz : w.heap.size < wr.heap.size := (Array.getElem?_eq_some_iff.1 hit).1
    by_cases hlt : pos < u.size
    · have hne : L.drop pos ≠ [] := by
        intro e
        have := congrArg List.length e
        rw [List.length_drop, HL.out, List.length_nil] at this; omega
      have HC := Lib.hid (Mt.runes_cons _ hne)
      have hd1 := Mt.decodeL_pos _ hne
      have hd2 := Mt.decodeL_le _ hne
      have hd3 := Mt.decodeL_ok (L.drop pos)
      rw [List.length_drop, HL.out] at hd2
      have hnx : ∀ ty, (Instr.next (.pointer (some ⟨w.heap.size, 0, none⟩)) true ty).run Try.prog wr = _ := fun ty => Lib.run_next_any_at wr w.heap.size u pos ty hit hlt
      rw [List.drop_drop] at HC
      rw [DR.out] at HC hd1 hd2 hd3
      obtain ⟨r, hr⟩ : ∃ r, r = (Utf8.decode u pos).1 := ⟨_, rfl⟩
      obtain ⟨d, hd⟩ : ∃ d, d = (Utf8.decode u pos).2 := ⟨_, rfl⟩
      rw [← hr] at hnx hd3 HC
      rw [← hd] at hnx hd1 hd2 HC
      clear hr hd
      have hr1 : r ≤ 1114111 := by unfold Mt.okR at hd3; omega
      obtain ⟨w1, hw1⟩ : ∃ w1, w1 = wr.iterAt w.heap.size u (pos + d) := ⟨_, rfl⟩
      have K1 := Lib.hid (show Kept w w1 by rw [hw1]; exact Lib.below_iterAt hk (Nat.le_refl _) u (pos + d))
      have I1 := Lib.hid (show w1.heap[w.heap.size]? = some (.stringIter u (pos + d)) by rw [hw1]; exact Lib.iterAt_heap wr w.heap.size u pos (pos + d) hit)
      have O1 := Lib.hid (show OwB w1 w.heap.size vv (Mt.asBytes l) by rw [hw1]; exact ho.iterAt hit _)
      have S1 := Lib.hid (show w.heap.size < w1.heap.size by rw [hw1, Lib.iterAt_size]; exact hsz)
      rw [← hw1] at hnx
      clear hw1 hit hk ho
      have AL := Lib.hid (fun wx => isAlone_any r wx hr1)
      cases ha : Mt.alone r
      · rw [ha] at AL
        have HB := Lib.hid (show Mt.bytesB L = false by
          unfold Mt.bytesB
          rw [HR.out.1, HC.out, List.all_append, List.all_cons, ha]; simp)
        have HV := Lib.hid (show Mt.bytesV L = [] by unfold Mt.bytesV; rw [HB.out]; rfl)
        clear ha
        go_wp2_with fail
        (with_reducible refine (AL.out _).mono ?_)
        rintro e w2 ⟨rfl, rfl⟩
        go_wp2_with fail
        go_ret2
        exact ⟨by rw [HB.out, HV.out]; rfl, K1.out⟩
      · rw [ha] at AL
        have h8 := Mt.alone_lt ha
        have HA := Lib.hid ha
        clear ha
        have hw8 : ((r : Int) % 256) = (r : Int) := by omega
        go_wp2_with fail
        (with_reducible refine (AL.out _).mono ?_)
        rintro e w2 ⟨rfl, rfl⟩
        go_wp2_with (at_builtin; refine wpList_app_bv rfl _ _ rfl (.inl O1.out) rfl [r.toUInt8] _ (by simp only [Lib.byteCells, List.map_cons, List.map_nil]; rw [Mt.u8_lit r h8]) 1 rfl (by decide) rfl (Nat.le_of_lt S1.out) (by rw [Mt.asBytes, List.length_map]; omega) ?_; intro v' w3 hb3)
        have B3 := Lib.hid hb3
        clear hb3
        go_roundg (u.size + 1 - (pos + d))
        case measure => omega
        case rel =>
          refine ⟨pos + d, l ++ [r], v', rfl, rfl, by omega, ?_, Lib.hid ⟨?_, ?_⟩, B3.out.2.2 _ _ I1.out (by simp) (fun _ _ e => by cases e), Below.trans K1.out B3.out.2.1, ?_⟩
          · rw [show Mt.asBytes (l ++ [r]) = Mt.asBytes l ++ [r.toUInt8] by simp [Mt.asBytes]]; exact B3.out.1
          · rw [List.append_assoc]; exact HR.out.1.trans (by rw [HC.out]; rfl)
          · intro q hq
            rcases List.mem_append.1 hq with hq | hq
            · exact HR.out.2 q hq
            · rw [List.mem_singleton.1 hq]; exact HA.out
          · simp; omega
    · obtain rfl : pos = u.size := by omega
      have hnx : ∀ ty, (Instr.next (.pointer (some ⟨w.heap.size, 0, none⟩)) true ty).run Try.prog wr = _ := fun ty => Lib.run_next_end_at wr w.heap.size u u.size ty hit hlt
      have hR := HR.out.1
      rw [List.drop_eq_nil_of_le (by rw [HL.out]; exact Nat.le_refl _), Mt.runes_nil, List.append_nil] at hR
      have HB := Lib.hid (show Mt.bytesB L = true by unfold Mt.bytesB; rw [hR]; exact List.all_eq_true.2 HR.out.2)
      have HV := Lib.hid (show Mt.bytesV L = Mt.asBytes l by unfold Mt.bytesV; rw [HB.out, if_pos rfl, hR])
      have hst := ho.string
      clear hR ho hit
      go_wp2_with fail
      go_ret2
      exact ⟨by rw [HB.out, HV.out]; rfl, HK.out⟩

end Go.Proofs.Ytakbhdhlcnpejaa

namespace Go.Proofs.Ytakbhdhlcnpejaa
open Go.RowKit
set_option linter.unusedSimpArgs false
set_option linter.unusedVariables false

theorem Mt.marked_pre (l : List UInt8) : Lib.hasPrefix l [254, 255] = Mt.marked l := by
  match l with
  | [] => rfl
  | [a] => show ((254 == a) && false) = false; simp
  | a :: b :: t =>
    show ((254 == a) && ((255 == b) && true)) = (a == 254 && b == 255)
    have h1 : ((254 : UInt8) == a) = (a == 254) := BEq.comm
    have h2 : ((255 : UInt8) == b) = (b == 255) := BEq.comm
    rw [h1, h2, Bool.and_true]
theorem HasPrefix_at (l : List UInt8) (w : World) :
    Calls Try.prog 35 #[.string ⟨l.toArray⟩, .string ⟨#[254, 255]⟩] w fun e w' => e = .returned (.bool (Mt.marked l)) ∧ w = w' :=
  (Try.strings_HasPrefix ⟨l.toArray⟩ ⟨#[254, 255]⟩ w).mono fun e w' ⟨he, hw⟩ => ⟨by rw [he, ← Mt.marked_pre], hw.symm⟩

theorem MkB.iterAt {w : World} {v : Value} {l : List UInt8} (h : MkB w v l) (hl : l ≠ []) {k : Nat} {s : ByteArray} {pos : Nat} (hk : w.heap[k]? = some (.stringIter s pos)) (pos' : Nat) : MkB (w.iterAt k s pos') v l := by
  obtain ⟨g, h1, h2, h3⟩ := h
  have hne : g ≠ k := by
    intro e
    obtain ⟨b, t, rfl⟩ := List.exists_cons_of_ne_nil hl
    have := h3 0 (.int .u8 (b.toNat : Int)) rfl
    rw [e] at this
    simp [World.cell?, hk] at this
  exact ⟨g, h1, by rw [Lib.iterAt_size]; exact h2, fun j u hj => by rw [← h3 j u hj]; exact World.cell?_of_block (Lib.iterAt_other w k g s pos' hne)⟩
theorem BV.iterAt {w : World} {B : Nat} {v : Value} {l : List UInt8} (h : BV w B v l) (hl : l ≠ []) {k : Nat} {s : ByteArray} {pos : Nat} (hk : w.heap[k]? = some (.stringIter s pos)) (pos' : Nat) : BV (w.iterAt k s pos') B v l :=
  h.elim (fun h => .inl (h.iterAt hk pos')) (fun h => .inr (h.iterAt hl hk pos'))

set_option maxRecDepth 100000 in
/-- The pairs of a text's characters. -/
theorem Encode_pairs (u : ByteArray) (w : World) (hu : u.size ≤ 268435000) (hn : (Mt.bytesB u.data.toList && !Mt.marked (Mt.bytesV u.data.toList)) = false) :
    Calls Try.prog 16 #[.string u] w fun e w' => e = .returned (.string ⟨(254 :: 255 :: Mt.pairs (Mt.runes u.data.toList)).toArray⟩) ∧ Kept w w' := by
  have HBY := Lib.hid (Bytes_any u w (by omega))
  obtain ⟨L, hL⟩ : ∃ L, L = u.data.toList := ⟨_, rfl⟩
  have hlen : L.length = u.size := by rw [hL]; simp
  rw [← hL] at HBY hn ⊢
  have DR := Lib.hid (fun pos => (show Go.Lib.decodeL (L.drop pos) = Utf8.decode u pos by rw [hL]; exact Lib.decodeL_drop u pos))
  have HL := Lib.hid hlen
  have HP := Lib.hid (fun wx => HasPrefix_at (Mt.bytesV L) wx)
  obtain ⟨S, hS⟩ : ∃ S : ByteArray, S = ⟨(Mt.bytesV L).toArray⟩ := ⟨_, rfl⟩
  obtain ⟨ok, hok⟩ : ∃ ok, ok = Mt.bytesB L := ⟨_, rfl⟩
  obtain ⟨mk, hmk⟩ : ∃ mk, mk = Mt.marked (Mt.bytesV L) := ⟨_, rfl⟩
  rw [← hok, ← hmk] at hn
  rw [← hS, ← hok] at HBY
  rw [← hS, ← hmk] at HP
  clear hS hok hmk hL hlen
  have kc := fun (w1 : World) => Lib.run_convert_bytes_const (P := Try.prog) w1 72 5 #[.int .u8 254, .int .u8 255] 2 2 Try.underlying72 Try.underlying5
  cases ok
  · go_enter Try.func16, Try.ntmps16
    go_wp2_with fail
    (with_reducible refine HBY.out.mono ?_)
    rintro e w1 ⟨rfl, hk1⟩
    have K1 := Lib.hid hk1
    clear hk1
    have kc1 := kc w1
    clear kc
    go_wp2_with fail
    have hs1 : w.heap.size ≤ w1.heap.size := Below.size K1.out
    go_loopg [5] (u.size + 1) (fun m x wr => ∃ (pos : Nat) (l : List Nat) (vv : Value), m = u.size + 1 - pos ∧ vv = x ∧ pos ≤ u.size ∧ BV wr w.heap.size vv (254 :: 255 :: Mt.pairs l) ∧ Hid (Mt.runes L = l ++ Mt.runes (L.drop pos)) ∧ wr.heap[w1.heap.size + 1]? = some (.stringIter u pos) ∧ Kept w wr ∧ l.length ≤ pos)
    case atStart =>
      have hit : ((w1.alloc (.cells #[.int .u8 254, .int .u8 255] 5 (2, 3))).iter u 0).heap[w1.heap.size + 1]? = some (.stringIter u 0) := by
        have := World.iter_heap (w1.alloc (.cells #[.int .u8 254, .int .u8 255] 5 (2, 3))) u 0
        simpa using this
      exact ⟨0, [], _, by simp, rfl, Nat.zero_le _, .inr (MkB.below (MkB.new w1 [254, 255] #[.int .u8 254, .int .u8 255] rfl (2, 3)) ((Below.refl _ _).alloc (Nat.le_refl _) _)), Lib.hid (by simp), hit, (K1.out.allocO _).allocO _, Nat.le_refl _⟩
    case round =>
      obtain ⟨pos, l, vv, hm, rfl, hp, ho, HR, hit, hk, hlp⟩ := hrel
      have HO := Lib.hid ho
      have HK := Lib.hid hk
      have hsz : w1.heap.size + 1 < wr.heap.size := (Array.getElem?_eq_some_iff.1 hit).1
      by_cases hlt : pos < u.size
      · have hne : L.drop pos ≠ [] := by
          intro e
          have := congrArg List.length e
          rw [List.length_drop, HL.out, List.length_nil] at this; omega
        have HC := Lib.hid (Mt.runes_cons _ hne)
        have hd1 := Mt.decodeL_pos _ hne
        have hd2 := Mt.decodeL_le _ hne
        have hd3 := Mt.decodeL_ok (L.drop pos)
        rw [List.length_drop, HL.out] at hd2
        have hnx : ∀ ty, (Instr.next (.pointer (some ⟨w1.heap.size + 1, 0, none⟩)) true ty).run Try.prog wr = _ := fun ty => Lib.run_next_any_at wr (w1.heap.size + 1) u pos ty hit hlt
        rw [List.drop_drop] at HC
        rw [DR.out] at HC hd1 hd2 hd3
        obtain ⟨r, hr⟩ : ∃ r, r = (Utf8.decode u pos).1 := ⟨_, rfl⟩
        obtain ⟨d, hd⟩ : ∃ d, d = (Utf8.decode u pos).2 := ⟨_, rfl⟩
        rw [← hr] at hnx hd3 HC
        rw [← hd] at hnx hd1 hd2 HC
        clear hr hd
        obtain ⟨w3, hw3⟩ : ∃ w3, w3 = wr.iterAt (w1.heap.size + 1) u (pos + d) := ⟨_, rfl⟩
        have K3 := Lib.hid (show Kept w w3 by rw [hw3]; exact Lib.below_iterAt hk (by omega) u (pos + d))
        have I3 := Lib.hid (show w3.heap[w1.heap.size + 1]? = some (.stringIter u (pos + d)) by rw [hw3]; exact Lib.iterAt_heap wr (w1.heap.size + 1) u pos (pos + d) hit)
        have O3 := Lib.hid (show BV w3 w.heap.size vv (254 :: 255 :: Mt.pairs l) by rw [hw3]; exact ho.iterAt (by simp) hit _)
        rw [← hw3] at hnx
        have hpl := Mt.pairs_len l
        have C := Lib.hid (appendChar_any r w.heap.size vv (254 :: 255 :: Mt.pairs l) w3 O3.out (Below.size K3.out) hd3 (by simp only [List.length_cons]; omega))
        clear hw3 hit hk ho hpl hd3
        go_wp2_with fail
        (with_reducible refine C.out.mono ?_)
        rintro e w4 ⟨v4, rfl, hb4⟩
        have B4 := Lib.hid hb4
        clear hb4
        go_wp2_with fail
        go_roundg (u.size + 1 - (pos + d))
        case measure => omega
        case rel =>
          refine ⟨pos + d, l ++ [r], v4, rfl, rfl, by omega, ?_, Lib.hid ?_, B4.out.2.2 _ _ I3.out (by simp) (fun _ _ e => by cases e), Below.trans K3.out B4.out.2.1, by simp; omega⟩
          · rw [Mt.pairs_append]
            rw [show Mt.pairs [r] = Mt.pairs1 r from List.append_nil _]
            exact Or.inl B4.out.1
          · rw [List.append_assoc]; exact HR.out.trans (by rw [HC.out]; rfl)
      · obtain rfl : pos = u.size := by omega
        have hnx : ∀ ty, (Instr.next (.pointer (some ⟨w1.heap.size + 1, 0, none⟩)) true ty).run Try.prog wr = _ := fun ty => Lib.run_next_end_at wr (w1.heap.size + 1) u u.size ty hit hlt
        have hR := HR.out
        rw [List.drop_eq_nil_of_le (by rw [HL.out]; exact Nat.le_refl _), Mt.runes_nil, List.append_nil] at hR
        have HT := Lib.hid hR
        have hst := ho.string
        clear hR ho hit
        go_wp2_with fail
        go_ret
        exact ⟨by rw [HT.out]; rfl, HK.out⟩
  · cases mk
    · exact absurd hn (by decide)
    go_enter Try.func16, Try.ntmps16
    go_wp2_with fail
    (with_reducible refine HBY.out.mono ?_)
    rintro e w1 ⟨rfl, hk1⟩
    have K1 := Lib.hid hk1
    clear hk1
    have kc1 := kc w1
    clear kc
    go_wp2_with fail
    (with_reducible refine (HP.out _).mono ?_)
    rintro e w2 ⟨rfl, rfl⟩
    go_wp2_with fail
    have hs1 : w.heap.size ≤ w1.heap.size := Below.size K1.out
    go_loopg [5] (u.size + 1) (fun m x wr => ∃ (pos : Nat) (l : List Nat) (vv : Value), m = u.size + 1 - pos ∧ vv = x ∧ pos ≤ u.size ∧ BV wr w.heap.size vv (254 :: 255 :: Mt.pairs l) ∧ Hid (Mt.runes L = l ++ Mt.runes (L.drop pos)) ∧ wr.heap[w1.heap.size + 1]? = some (.stringIter u pos) ∧ Kept w wr ∧ l.length ≤ pos)
    case atStart =>
      have hit : ((w1.alloc (.cells #[.int .u8 254, .int .u8 255] 5 (2, 3))).iter u 0).heap[w1.heap.size + 1]? = some (.stringIter u 0) := by
        have := World.iter_heap (w1.alloc (.cells #[.int .u8 254, .int .u8 255] 5 (2, 3))) u 0
        simpa using this
      exact ⟨0, [], _, by simp, rfl, Nat.zero_le _, .inr (MkB.below (MkB.new w1 [254, 255] #[.int .u8 254, .int .u8 255] rfl (2, 3)) ((Below.refl _ _).alloc (Nat.le_refl _) _)), Lib.hid (by simp), hit, (K1.out.allocO _).allocO _, Nat.le_refl _⟩
    case round =>
      obtain ⟨pos, l, vv, hm, rfl, hp, ho, HR, hit, hk, hlp⟩ := hrel
      have HO := Lib.hid ho
      have HK := Lib.hid hk
      have hsz : w1.heap.size + 1 < wr.heap.size := (Array.getElem?_eq_some_iff.1 hit).1
      by_cases hlt : pos < u.size
      · have hne : L.drop pos ≠ [] := by
          intro e
          have := congrArg List.length e
          rw [List.length_drop, HL.out, List.length_nil] at this; omega
        have HC := Lib.hid (Mt.runes_cons _ hne)
        have hd1 := Mt.decodeL_pos _ hne
        have hd2 := Mt.decodeL_le _ hne
        have hd3 := Mt.decodeL_ok (L.drop pos)
        rw [List.length_drop, HL.out] at hd2
        have hnx : ∀ ty, (Instr.next (.pointer (some ⟨w1.heap.size + 1, 0, none⟩)) true ty).run Try.prog wr = _ := fun ty => Lib.run_next_any_at wr (w1.heap.size + 1) u pos ty hit hlt
        rw [List.drop_drop] at HC
        rw [DR.out] at HC hd1 hd2 hd3
        obtain ⟨r, hr⟩ : ∃ r, r = (Utf8.decode u pos).1 := ⟨_, rfl⟩
        obtain ⟨d, hd⟩ : ∃ d, d = (Utf8.decode u pos).2 := ⟨_, rfl⟩
        rw [← hr] at hnx hd3 HC
        rw [← hd] at hnx hd1 hd2 HC
        clear hr hd
        obtain ⟨w3, hw3⟩ : ∃ w3, w3 = wr.iterAt (w1.heap.size + 1) u (pos + d) := ⟨_, rfl⟩
        have K3 := Lib.hid (show Kept w w3 by rw [hw3]; exact Lib.below_iterAt hk (by omega) u (pos + d))
        have I3 := Lib.hid (show w3.heap[w1.heap.size + 1]? = some (.stringIter u (pos + d)) by rw [hw3]; exact Lib.iterAt_heap wr (w1.heap.size + 1) u pos (pos + d) hit)
        have O3 := Lib.hid (show BV w3 w.heap.size vv (254 :: 255 :: Mt.pairs l) by rw [hw3]; exact ho.iterAt (by simp) hit _)
        rw [← hw3] at hnx
        have hpl := Mt.pairs_len l
        have C := Lib.hid (appendChar_any r w.heap.size vv (254 :: 255 :: Mt.pairs l) w3 O3.out (Below.size K3.out) hd3 (by simp only [List.length_cons]; omega))
        clear hw3 hit hk ho hpl hd3
        go_wp2_with fail
        (with_reducible refine C.out.mono ?_)
        rintro e w4 ⟨v4, rfl, hb4⟩
        have B4 := Lib.hid hb4
        clear hb4
        go_wp2_with fail
        go_roundg (u.size + 1 - (pos + d))
        case measure => omega
        case rel =>
          refine ⟨pos + d, l ++ [r], v4, rfl, rfl, by omega, ?_, Lib.hid ?_, B4.out.2.2 _ _ I3.out (by simp) (fun _ _ e => by cases e), Below.trans K3.out B4.out.2.1, by simp; omega⟩
          · rw [Mt.pairs_append]
            rw [show Mt.pairs [r] = Mt.pairs1 r from List.append_nil _]
            exact Or.inl B4.out.1
          · rw [List.append_assoc]; exact HR.out.trans (by rw [HC.out]; rfl)
      · obtain rfl : pos = u.size := by omega
        have hnx : ∀ ty, (Instr.next (.pointer (some ⟨w1.heap.size + 1, 0, none⟩)) true ty).run Try.prog wr = _ := fun ty => Lib.run_next_end_at wr (w1.heap.size + 1) u u.size ty hit hlt
        have hR := HR.out
        rw [List.drop_eq_nil_of_le (by rw [HL.out]; exact Nat.le_refl _), Mt.runes_nil, List.append_nil] at hR
        have HT := Lib.hid hR
        have hst := ho.string
        clear hR ho hit
        go_wp2_with fail
        go_ret
        exact ⟨by rw [HT.out]; rfl, HK.out⟩

set_option maxRecDepth 100000 in
/-- The bytes of a text's characters. -/
theorem Encode_bytes (u : ByteArray) (w : World) (hu : u.size ≤ 268435000) (h1 : Mt.bytesB u.data.toList = true) (h2 : Mt.marked (Mt.bytesV u.data.toList) = false) :
    Calls Try.prog 16 #[.string u] w fun e w' => e = .returned (.string ⟨(Mt.bytesV u.data.toList).toArray⟩) ∧ Kept w w' := by
  have HBY := Lib.hid (Bytes_any u w (by omega))
  have HP := Lib.hid (fun wx => HasPrefix_at (Mt.bytesV u.data.toList) wx)
  obtain ⟨S, hS⟩ : ∃ S : ByteArray, S = ⟨(Mt.bytesV u.data.toList).toArray⟩ := ⟨_, rfl⟩
  rw [← hS, h1] at HBY
  rw [← hS, h2] at HP
  rw [← hS]
  clear hS h1 h2
  go_enter Try.func16, Try.ntmps16
  go_wp2_with fail
  (with_reducible refine HBY.out.mono ?_)
  rintro e w1 ⟨rfl, hk1⟩
  have K1 := Lib.hid hk1
  clear hk1
  go_wp2_with fail
  (with_reducible refine (HP.out _).mono ?_)
  rintro e w2 ⟨rfl, rfl⟩
  go_wp2_with fail
  go_ret
  exact ⟨rfl, K1.out⟩
theorem Encode_any (u : ByteArray) (w : World) (hu : u.size ≤ 268435000) :
    Calls Try.prog 16 #[.string u] w fun e w' => e = .returned (.string ⟨(Mt.encodeV u.data.toList).toArray⟩) ∧ Kept w w' := by
  cases hn : (Mt.bytesB u.data.toList && !Mt.marked (Mt.bytesV u.data.toList))
  · unfold Mt.encodeV
    rw [hn]
    exact Encode_pairs u w hu hn
  · have h1 : Mt.bytesB u.data.toList = true := by
      cases h : Mt.bytesB u.data.toList
      · rw [h] at hn; exact absurd hn (by simp)
      · rfl
    have h2 : Mt.marked (Mt.bytesV u.data.toList) = false := by
      cases h : Mt.marked (Mt.bytesV u.data.toList)
      · rfl
      · rw [h1, h] at hn; exact absurd hn (by decide)
    unfold Mt.encodeV
    rw [hn]
    exact Encode_bytes u w hu h1 h2

end Go.Proofs.Ytakbhdhlcnpejaa

namespace Go.Proofs.Ytakbhdhlcnpejaa
open Go.RowKit
set_option linter.unusedSimpArgs false
set_option linter.unusedVariables false

theorem CutPrefix_at (l : List UInt8) (w : World) :
    Calls Try.prog 29 #[.string ⟨l.toArray⟩, .string ⟨#[254, 255]⟩] w fun e w' => e = .returned (.tuple #[.string ⟨(Lib.trimPrefix l [254, 255]).toArray⟩, .bool (Mt.marked l)]) ∧ w = w' :=
  (Try.strings_CutPrefix ⟨l.toArray⟩ ⟨#[254, 255]⟩ w).mono fun e w' ⟨he, hw⟩ => ⟨by rw [he, ← Mt.marked_pre], hw.symm⟩

/-- A builder that holds bytes, made in w. -/
def Bu (w : World) (b : Nat) (l : List UInt8) (wr : World) : Prop := Lib.IsBuilderF 74 5 w.heap.size b (Lib.byteCells l) wr

theorem buF_kept {T e : TypeId} {B b : Nat} {p : Value} {bs : List Value} {w w' : World} (h : Lib.BuilderAtF T e B b p bs w) (k : Kept w w') : Lib.BuilderAtF T e B b p bs w' := by
  have hlt := h.lt
  obtain ⟨hB, v, hb, hown, hne⟩ := h
  refine ⟨hB, v, by rw [k.block b hlt]; exact hb, ⟨hown.1, ?_⟩, hne⟩
  rcases hown.2 with h | ⟨g, cap, cur, fz, hv, hbg, hg, r⟩
  · exact .inl h
  · refine .inr ⟨g, cap, cur, fz, hv, hbg, ?_, r⟩
    have hlt : g < w.heap.size := by
      rcases Nat.lt_or_ge g w.heap.size with h | h
      · exact h
      · rw [Array.getElem?_eq_none h] at hg; cases hg
    rw [k.block g hlt]; exact hg
theorem Bu.kept {w : World} {b : Nat} {l : List UInt8} {w1 w2 : World} (h : Bu w b l w1) (k : Kept w1 w2) : Bu w b l w2 :=
  h.elim (fun x => .inl (buF_kept x k)) (fun x => .inr (buF_kept x k))
theorem Bu.app {w : World} {b : Nat} {acc : List Nat} {r : Nat} {w1 : World} (h : Lib.BuilderAtF 74 5 w.heap.size b (.pointer (some ⟨b, 0, none⟩)) (Lib.byteCells (Mt.enc acc) ++ Lib.runeCells (r : Int)) w1) : Bu w b (Mt.enc (acc ++ [r])) w1 := by
  refine Or.inr ?_
  rw [Mt.enc_append, Lib.byteCells_append, show Mt.enc [r] = Lib.encodeRune (r : Int) from List.append_nil _, Lib.byteCells_encodeRune]
  exact h
theorem Mt.slice_text (t : List UInt8) (d : Nat) (h : d ≤ t.length) (W : World) : (Instr.slice 9 (.string ⟨t.toArray⟩) (some (.int .i64 (d : Int))) none none).run Try.prog W = .ok (.string ⟨(t.drop d).toArray⟩) W := by
  have z := Mt.text_drop t d t.length rfl
  have z1 : (⟨t.toArray⟩ : ByteArray).size = t.length := Mt.text_size t
  have z2 : (d : Int) ≤ (t.length : Int) := by omega
  have z3 : (0 : Int) ≤ (d : Int) := by omega
  go_simp

set_option maxRecDepth 100000 in
theorem decodePairs_any (l : List UInt8) (w : World) (hl : l.length ≤ 268435000) :
    Calls Try.prog 30 #[.string ⟨l.toArray⟩] w fun e w' => e = .returned (.string ⟨(Mt.enc (Mt.unpair l)).toArray⟩) ∧ Kept w w' := by
  have HL := Lib.hid hl
  go_enter Try.func30, Try.ntmps30
  go_wp2_with fail
  go_loopg [0] (l.length + 1) (fun m x wr => ∃ (t : List UInt8) (acc : List Nat), m = t.length + 1 ∧ .string ⟨t.toArray⟩ = x ∧ Bu w w.heap.size (Mt.enc acc) wr ∧ Hid (Mt.unpair l = acc ++ Mt.unpair t) ∧ acc.length + t.length ≤ l.length ∧ Kept w wr)
  case atStart => exact ⟨l, [], rfl, rfl, Lib.IsBuilderF.of (Lib.fresh_isBuilder 74 5 w), Lib.hid rfl, by simp, (Kept.refl w).allocO _⟩
  case round =>
    obtain ⟨t, acc, hm, rfl, hb, HR, hlen, hk⟩ := hrel
    have hsz := Below.size hk
    have hen := (Mt.enc_len acc).2
    by_cases hne : t = []
    · subst hne
      have HT := Lib.hid (show Mt.unpair l = acc by rw [HR.out, Mt.unpair_nil, List.append_nil])
      have HK := Lib.hid hk
      have C := Lib.hid (Try.Builder_String_any_k w.heap.size w.heap.size (Mt.enc acc) wr hb hsz)
      clear hb hk HR
      go_wp2_with fail
      (with_reducible refine C.out.mono ?_)
      rintro e w1 ⟨rfl, -, h1, -⟩
      have K1 := Lib.hid (show Kept w w1 from Below.trans HK.out h1)
      clear h1
      go_wp2_with fail
      go_ret
      exact ⟨by rw [HT.out]; rfl, K1.out⟩
    · have HC := Lib.hid (Mt.unpair_cons t hne)
      have f1 := Mt.fstC_pos t hne
      have f2 := Mt.fstC_le t
      have f3 := Mt.fstC_ok t
      have F := Lib.hid (firstChar_any t wr (by omega))
      obtain ⟨r, hr⟩ : ∃ r, r = (Mt.fstC t).1 := ⟨_, rfl⟩
      obtain ⟨d, hd⟩ : ∃ d, d = (Mt.fstC t).2 := ⟨_, rfl⟩
      rw [← hr, ← hd] at F HC
      rw [← hr] at f3
      rw [← hd] at f1 f2
      have hr1 : r ≤ 1114111 := by unfold Mt.okR at f3; omega
      have he : t.isEmpty = false := by simpa using hne
      have HB := Lib.hid hb
      have HK := Lib.hid hk
      have hsl := Mt.slice_text t d f2
      clear hr hd hb hk hne
      go_wp2_with fail
      (with_reducible refine F.out.mono ?_)
      rintro e w1 ⟨rfl, hk1⟩
      have B1 := Lib.hid (show Bu w w.heap.size (Mt.enc acc) w1 from Bu.kept HB.out hk1)
      have K1 := Lib.hid (HK.out.trans hk1)
      clear hk1
      have C := Lib.hid (writeRune_k w.heap.size w.heap.size (Lib.byteCells (Mt.enc acc)) r (by omega) (by omega) w1 B1.out (by rw [Lib.byteCells_length]; omega) (Below.size K1.out))
      go_wp2_with fail
      (with_reducible refine C.out.mono ?_)
      rintro e w2 ⟨rfl, b2, h2, -⟩
      have B2 := Lib.hid b2
      have K2 := Lib.hid (show Kept w w2 from Below.trans K1.out h2)
      clear b2 h2
      go_wp2_with fail
      go_roundg ((t.drop d).length + 1)
      case measure => rw [List.length_drop]; omega
      case rel =>
        refine ⟨t.drop d, acc ++ [r], rfl, rfl, ?_, Lib.hid ?_, ?_, K2.out⟩
        · exact Bu.app B2.out
        · rw [List.append_assoc]; exact HR.out.trans (by rw [HC.out]; rfl)
        · rw [List.length_append, List.length_drop, List.length_singleton]; omega

theorem Mt.marked_drop {l : List UInt8} (h : Mt.marked l = true) : Lib.trimPrefix l [254, 255] = l.drop 2 := by
  have hp : Lib.hasPrefix l [254, 255] = true := by rw [Mt.marked_pre]; exact h
  unfold Lib.trimPrefix
  rw [hp]; rfl

set_option maxRecDepth 100000 in
theorem Decode_any (l : List UInt8) (w : World) (hl : l.length ≤ 268435000) :
    Calls Try.prog 15 #[.string ⟨l.toArray⟩] w fun e w' => e = .returned (.string ⟨(Mt.decodeV l).toArray⟩) ∧ Kept w w' := by
  have HC := Lib.hid (CutPrefix_at l w)
  cases hm : Mt.marked l
  · rw [hm] at HC
    have HV0 := (show Mt.decodeV l = Mt.enc (l.map Mt.char1) by unfold Mt.decodeV Mt.chars; rw [hm]; rfl)
    obtain ⟨M, hM⟩ : ∃ M, M = l.map Mt.char1 := ⟨_, rfl⟩
    have HML := Lib.hid (show M.length = l.length by rw [hM, List.length_map])
    have HMT := Lib.hid (show ∀ (j : Nat) (h : j < l.length), M.take (j + 1) = M.take j ++ [Mt.char1 l[j]] by
      intro j h
      rw [List.take_succ_eq_append_getElem (by rw [HML.out]; exact h)]
      simp [hM])
    rw [← hM] at HV0
    have HV := Lib.hid HV0
    clear HV0 hM
    obtain ⟨cut, hcut⟩ : ∃ cut : ByteArray, cut = ⟨(Lib.trimPrefix l [254, 255]).toArray⟩ := ⟨_, rfl⟩
    rw [← hcut] at HC
    have hsz : (⟨l.toArray⟩ : ByteArray).size = l.length := Mt.text_size l
    have HL := Lib.hid hl
    obtain ⟨S, hS⟩ : ∃ S : ByteArray, S = ⟨l.toArray⟩ := ⟨_, rfl⟩
    have HG := Lib.hid (show ∀ (j : Nat) (h : j < S.size) (h2 : j < l.length), S[j] = l[j] by subst hS; intro j h h2; rfl)
    rw [← hS] at HC hsz ⊢
    obtain ⟨n, hn⟩ : ∃ n, n = l.length := ⟨_, rfl⟩
    rw [← hn] at hsz hl
    have HN := Lib.hid hn
    clear hcut hm hS hn
    go_enter Try.func15, Try.ntmps15
    go_wp2_with fail
    (with_reducible refine HC.out.mono ?_)
    rintro e w1 ⟨rfl, rfl⟩
    go_wp2_with fail
    go_loopg [7, 18] (n + 1) (fun m _ y wr => ∃ (j : Nat), m = n - j + 1 ∧ j ≤ n ∧ y = .int .i64 j ∧ Bu w w.heap.size (Mt.enc (M.take j)) wr ∧ Kept w wr)
    case atStart => exact ⟨0, rfl, Nat.zero_le _, rfl, Lib.IsBuilderF.of (Lib.fresh_isBuilder 74 5 w), (Kept.refl w).allocO _⟩
    case round =>
      obtain ⟨j, hm, hj, rfl, hb, hk⟩ := hrel
      have hsz2 := Below.size hk
      have HB := Lib.hid hb
      have HK := Lib.hid hk
      by_cases hlt : j < n
      · have hlt2 : j < l.length := by rw [← HN.out]; exact hlt
        have HG1 := Lib.hid (show S[j]'(by rw [hsz]; exact hlt) = l[j] from HG.out j (by rw [hsz]; exact hlt) hlt2)
        obtain ⟨b, hbb⟩ : ∃ b, b = l[j] := ⟨_, rfl⟩
        rw [← hbb] at HG1
        have HT := Lib.hid (show M.take (j + 1) = M.take j ++ [Mt.char1 b] by rw [hbb]; exact HMT.out j hlt2)
        have hen := (Mt.enc_len (M.take j)).2
        rw [List.length_take, HML.out] at hen
        obtain ⟨x, hx⟩ : ∃ x, x = b.toNat := ⟨_, rfl⟩
        have hx1 : x < 256 := by rw [hx]; exact b.toNat_lt
        have hi : ((S[j]'(by rw [hsz]; exact hlt)).toNat : Int) = (x : Int) := by rw [HG1.out, hx]
        have AL := Lib.hid (fun wx => isAlone_any x wx (by omega))
        have HX1 := Lib.hid (show Mt.char1 b = if Mt.alone x then x else 65533 by rw [hx]; rfl)
        clear hx hbb hb hk
        have hj0 : (0 : Int) ≤ (j : Int) := by omega
        have CW := Lib.hid (fun (r : Int) (hr0 : 0 ≤ r) (hr : r ≤ 1114111) => writeRune_k w.heap.size w.heap.size (Lib.byteCells (Mt.enc (M.take j))) r (by omega) (by omega) wr HB.out (by rw [Lib.byteCells_length]; have := Nat.min_le_left j l.length; omega) hsz2)
        cases ha : Mt.alone x
        · rw [ha] at AL HX1
          have HX := Lib.hid (show Mt.char1 b = 65533 from HX1.out)
          have C := Lib.hid (CW.out 65533 (by decide) (by decide))
          clear ha HX1 CW
          go_wp2_with fail
          (with_reducible refine (AL.out _).mono ?_)
          rintro e w2 ⟨rfl, rfl⟩
          go_wp2_with fail
          (with_reducible refine C.out.mono ?_)
          rintro e w2 ⟨rfl, b2, h2, -⟩
          have B2 := Lib.hid b2
          have K2 := Lib.hid (show Kept w w2 from Below.trans HK.out h2)
          clear b2 h2
          go_wp2_with fail
          go_roundg (n - (j + 1) + 1)
          case measure => omega
          case rel => exact ⟨j + 1, rfl, by omega, by go_num, by rw [HT.out, HX.out]; exact Bu.app (r := 65533) B2.out, K2.out⟩
        · rw [ha] at AL HX1
          have HX := Lib.hid (show Mt.char1 b = x from HX1.out)
          have C := Lib.hid (CW.out x (by omega) (by omega))
          clear ha HX1 CW
          go_wp2_with fail
          (with_reducible refine (AL.out _).mono ?_)
          rintro e w2 ⟨rfl, rfl⟩
          go_wp2_with fail
          (with_reducible refine C.out.mono ?_)
          rintro e w2 ⟨rfl, b2, h2, -⟩
          have B2 := Lib.hid b2
          have K2 := Lib.hid (show Kept w w2 from Below.trans HK.out h2)
          clear b2 h2
          go_wp2_with fail
          go_roundg (n - (j + 1) + 1)
          case measure => omega
          case rel => exact ⟨j + 1, rfl, by omega, by go_num, by rw [HT.out, HX.out]; exact Bu.app B2.out, K2.out⟩
      · obtain rfl : j = n := by omega
        have C := Lib.hid (Try.Builder_String_any_k w.heap.size w.heap.size (Mt.enc (M.take j)) wr hb hsz2)
        have HT := Lib.hid (show M.take j = M by rw [HN.out, ← HML.out, List.take_length])
        rw [HT.out] at C
        clear hb hk
        go_wp2_with fail
        (with_reducible refine C.out.mono ?_)
        rintro e w2 ⟨rfl, -, h1, -⟩
        have K1 := Lib.hid (show Kept w w2 from Below.trans HK.out h1)
        clear h1
        go_wp2_with fail
        go_ret
        exact ⟨by rw [HV.out]; rfl, K1.out⟩
  · rw [hm, Mt.marked_drop hm] at HC
    have HV := Lib.hid (show Mt.decodeV l = Mt.enc (Mt.unpair (l.drop 2)) by unfold Mt.decodeV Mt.chars; rw [hm]; rfl)
    have C := Lib.hid (decodePairs_any (l.drop 2) w (by rw [List.length_drop]; omega))
    clear hm
    go_enter Try.func15, Try.ntmps15
    go_wp2_with fail
    (with_reducible refine HC.out.mono ?_)
    rintro e w1 ⟨rfl, rfl⟩
    go_wp2_with fail
    (with_reducible refine C.out.mono ?_)
    rintro e w2 ⟨rfl, hk2⟩
    have K2 := Lib.hid hk2
    clear hk2
    go_wp2_with fail
    go_ret
    exact ⟨by rw [HV.out]; rfl, K2.out⟩

end Go.Proofs.Ytakbhdhlcnpejaa

namespace Go.Proofs.Ytakbhdhlcnpejaa
open Go.RowKit
set_option linter.unusedSimpArgs false
set_option linter.unusedVariables false

theorem Mt.ex_width : Mt.helv.width [65, 32] = 945 := by kernel_rfl
theorem Mt.ex_dec : Mt.decodeV [254, 255, 32, 172] = [226, 130, 172] := by kernel_rfl
theorem Mt.ex_enc : Mt.encodeV [97] = [97] := by kernel_rfl

set_option maxRecDepth 100000 in
theorem awake13_any (w : World) :
    Calls Try.prog 4 #[] w fun e w' => e = .returned (.bool true) ∧ Kept w w' := by
  have CS := Lib.hid (fun wx => Standard_helv wx)
  have CD := Lib.hid (fun wx => (show Calls Try.prog 15 #[.string ⟨#[254, 255, 32, 172]⟩] wx fun e w' => e = .returned (.string ⟨#[226, 130, 172]⟩) ∧ Kept wx w' by
    have := Decode_any [254, 255, 32, 172] wx (by decide)
    rw [Mt.ex_dec] at this; exact this))
  have CE := Lib.hid (fun wx => (show Calls Try.prog 16 #[.string ⟨#[97]⟩] wx fun e w' => e = .returned (.string ⟨#[97]⟩) ∧ Kept wx w' by
    have := Encode_any ⟨#[97]⟩ wx (by decide)
    rw [show (⟨#[97]⟩ : ByteArray).data.toList = [97] from rfl, Mt.ex_enc] at this; exact this))
  go_enter Try.func4, Try.ntmps4
  go_wp2_with fail
  (with_reducible refine (CS.out _).mono ?_)
  rintro e w1 ⟨p, c, rfl, hn, hk1⟩
  have K1 := Lib.hid hk1
  clear hk1
  unfold Mt.fontV
  obtain ⟨L, hL⟩ : ∃ L, L = Mt.helv.ws.length := ⟨_, rfl⟩
  have CW := Lib.hid (fun wx (k : Kept w1 wx) => (show Calls Try.prog 14 #[.agg #[.int .i64 32, .slice p L c, .int .i64 556], .string ⟨#[65, 32]⟩] wx fun e w' => e = .returned (.int .i64 945) ∧ Kept wx w' by
    have := (Width_any Mt.helv p c ⟨#[65, 32]⟩ wx ((hn.keep (Nat.le_refl _) k).up (Below.size k)) Mt.helv_sane (by decide))
    rw [show (⟨#[65, 32]⟩ : ByteArray).data.toList = [65, 32] from rfl, Mt.ex_width, ← hL] at this
    exact this))
  rw [← hL]
  have q0 : ((Mt.helv.first : Nat) : Int) = 32 := rfl
  have q1 : ((Mt.helv.other : Nat) : Int) = 556 := rfl
  rw [q0, q1]
  clear hn hL q0 q1 CS
  go_wp2_with fail
  (with_reducible refine (CW.out _ ((Kept.refl _).alloc _ _)).mono ?_)
  rintro e w2 ⟨rfl, hk2⟩
  have K2 := Lib.hid (show Kept w w2 from (K1.out.alloc _ _).trans hk2)
  clear hk2
  go_wp2_with fail
  (with_reducible refine (CD.out _).mono ?_)
  rintro e w3 ⟨rfl, hk3⟩
  have K3 := Lib.hid (K2.out.trans hk3)
  clear hk3
  go_wp2_with fail
  (with_reducible refine (CE.out _).mono ?_)
  rintro e w4 ⟨rfl, hk4⟩
  have K4 := Lib.hid (K3.out.trans hk4)
  clear hk4
  go_wp2_with fail
  go_ret
  exact ⟨rfl, K4.out⟩

end Go.Proofs.Ytakbhdhlcnpejaa
