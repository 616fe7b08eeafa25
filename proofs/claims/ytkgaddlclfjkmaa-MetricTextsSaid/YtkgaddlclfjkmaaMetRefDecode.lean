/-
  The reference's Decode.
-/
import Derived.Test.YtkgaddlclfjkmaaMetRefRunes
import Derived.Test.YtkgaddlclfjkmaaMetricBackWalk
import Derived.Test.YtkgaddlclfjkmaaMetUtf
import Derived.BigQuiet
import Derived.Deep.QuietTactic
namespace Go.Proofs.Ytkgaddlclfjkmaa
open Go.RowKit
set_option linter.unusedSimpArgs false
set_option linter.unusedVariables false

theorem Mt.cat_enc (acc : List Nat) (r : Nat) (O : ByteArray) (hO : O.data.toList = Mt.enc acc) (ha : acc.length ≤ 268435000) :
    ∃ C : ByteArray, Utf8.encode (r : Int) = C ∧ (O ++ C).data.toList = Mt.enc (acc ++ [r]) ∧ ¬ 9223372036854775807 < O.size + C.size ∧ O.size + C.size ≤ 9223372036854775807 := by
  refine ⟨_, rfl, ?_, ?_, ?_⟩
  · rw [Mt.enc_append, show Mt.enc [r] = Lib.encodeRune (r : Int) from List.append_nil _, ← Mt.utf_enc, ← hO]; simp
  all_goals
    have h1 := (Mt.enc_len acc).2
    have h2 := (Mt.encR_len (r : Int)).2
    rw [← Mt.utf_enc, ← Lib.size_eq] at h2
    rw [← hO, ← Lib.size_eq] at h1
    omega
theorem Mt.fstC_at (l : List UInt8) (j : Nat) (h : j + 1 < l.length) : ∃ t, l.drop j = l[j] :: l[j + 1] :: t ∧ t = l.drop (j + 2) := by
  refine ⟨l.drop (j + 2), ?_, rfl⟩
  rw [List.drop_eq_getElem_cons (by omega), List.drop_eq_getElem_cons h]

set_option maxRecDepth 100000 in
set_option maxHeartbeats 8000000 in
theorem RDecode_one (l : List UInt8) (w : World) (hl : l.length ≤ 268435000) (hm : Mt.marked l = false) :
    Calls Try.prog 18 #[.string ⟨l.toArray⟩] w fun e w' => e = .returned (.string ⟨(Mt.enc (l.map Mt.char1)).toArray⟩) ∧ Kept w w' := by
  have hsz : (⟨l.toArray⟩ : ByteArray).size = l.length := Mt.text_size l
  obtain ⟨M, hM⟩ : ∃ M, M = l.map Mt.char1 := ⟨_, rfl⟩
  have HML := Lib.hid (show M.length = l.length by rw [hM, List.length_map])
  have HMT := Lib.hid (show ∀ (j : Nat) (h : j < l.length), M.take (j + 1) = M.take j ++ [Mt.char1 l[j]] by
    intro j h
    rw [List.take_succ_eq_append_getElem (by rw [HML.out]; exact h)]
    simp [hM])
  rw [← hM]
  obtain ⟨S, hS⟩ : ∃ S : ByteArray, S = ⟨l.toArray⟩ := ⟨_, rfl⟩
  have HG := Lib.hid (show ∀ (j : Nat) (h : j < S.size) (h2 : j < l.length), S[j] = l[j] by subst hS; intro j h h2; rfl)
  have HW := Mt.marked_ways S
  rw [show S.data.toList = l by rw [hS]] at HW
  rw [← hS] at hsz ⊢
  obtain ⟨n, hn⟩ : ∃ n, n = l.length := ⟨_, rfl⟩
  rw [← hn] at hsz hl
  have HN := Lib.hid hn
  clear hS hn hM
  have key : ∀ (W : World), True := fun _ => trivial
  rcases HW with ⟨hmk, -⟩ | ⟨hmk, hz | ⟨hz, h0⟩ | ⟨hz, h0, h1⟩⟩
  · rw [hmk] at hm; cases hm
  all_goals
    clear hmk hm key
    first
      | (have y0 : (S.size : Int) < 2 := by omega
         clear hz)
      | (have y0 : ¬ (S.size : Int) < 2 := by omega
         have y1 : (0 : Int) < (S.size : Int) := by omega
         have y2 : (1 : Int) < (S.size : Int) := by omega
         first
           | (have b0 := Mt.byte_is h0 254 rfl
              have b1 := Mt.byte_not h1 255 rfl
              have b2 : ((S[0].toNat : Int) != 254) = false := by rw [bne, b0]; rfl
              have b3 : ((S[1].toNat : Int) != 255) = true := by rw [bne, b1]; rfl
              clear h0 h1)
           | (have b0 := Mt.byte_not h0 254 rfl
              have b2 : ((S[0].toNat : Int) != 254) = true := by rw [bne, b0]; rfl
              clear h0))
    go_enter Try.func18, Try.ntmps18
    go_wp2_with fail
    go_loopg [3, 4] (n + 1) (fun m x y wr => ∃ (j : Nat) (O : ByteArray), m = n - j + 1 ∧ .string O = x ∧ y = .int .i64 j ∧ j ≤ n ∧ Hid (O.data.toList = Mt.enc (M.take j)) ∧ w = wr)
    case atStart => exact ⟨0, _, rfl, rfl, rfl, Nat.zero_le _, Lib.hid rfl, rfl⟩
    case round =>
      obtain ⟨j, O, hmj, rfl, rfl, hj, HO, rfl⟩ := hrel
      by_cases hlt : j < n
      · have hlt2 : j < l.length := by rw [← HN.out]; exact hlt
        have HG1 := Lib.hid (show S[j]'(by rw [hsz]; exact hlt) = l[j] from HG.out j (by rw [hsz]; exact hlt) hlt2)
        obtain ⟨b, hbb⟩ : ∃ b, b = l[j] := ⟨_, rfl⟩
        rw [← hbb] at HG1
        have HT := Lib.hid (show M.take (j + 1) = M.take j ++ [Mt.char1 b] by rw [hbb]; exact HMT.out j hlt2)
        obtain ⟨x, hx⟩ : ∃ x, x = b.toNat := ⟨_, rfl⟩
        have hx1 : x < 256 := by rw [hx]; exact b.toNat_lt
        have hi : ((S[j]'(by rw [hsz]; exact hlt)).toNat : Int) = (x : Int) := by rw [HG1.out, hx]
        have AL := Lib.hid (fun wx => RAlone_any x wx (by omega))
        have HX1 := Lib.hid (show Mt.char1 b = if Mt.alone x then x else 65533 by rw [hx]; rfl)
        clear hx hbb
        have hj0 : (0 : Int) ≤ (j : Int) := by omega
        have hacc : (M.take j).length ≤ 268435000 := by rw [List.length_take, HML.out, ← HN.out]; have := Nat.min_le_left j n; omega
        have hO := HO.out
        cases ha : Mt.alone x
        · rw [ha] at AL HX1
          have HX := Lib.hid (show Mt.char1 b = 65533 from HX1.out)
          obtain ⟨C, hC, hO2, hs1, hs2⟩ := Mt.cat_enc (M.take j) 65533 O hO hacc
          obtain ⟨O2, hO3⟩ : ∃ O2, O2 = O ++ C := ⟨_, rfl⟩
          have HO2 := Lib.hid (show O2.data.toList = Mt.enc (M.take (j + 1)) by rw [hO3, HT.out, HX.out]; exact hO2)
          have hO4 : O ++ C = O2 := hO3.symm
          have hC2 : Utf8.encode 65533 = C := hC
          clear ha HX1 hC hO2 hO3 hO
          go_wp2_with fail
          (with_reducible refine (AL.out _).mono ?_)
          rintro e w2 ⟨rfl, rfl⟩
          go_wp2_with fail
          go_roundg (n - (j + 1) + 1)
          case measure => omega
          case rel => exact ⟨j + 1, O2, rfl, rfl, by go_num, by omega, HO2, rfl⟩
        · rw [ha] at AL HX1
          have HX := Lib.hid (show Mt.char1 b = x from HX1.out)
          obtain ⟨C, hC, hO2, hs1, hs2⟩ := Mt.cat_enc (M.take j) x O hO hacc
          obtain ⟨O2, hO3⟩ : ∃ O2, O2 = O ++ C := ⟨_, rfl⟩
          have HO2 := Lib.hid (show O2.data.toList = Mt.enc (M.take (j + 1)) by rw [hO3, HT.out, HX.out]; exact hO2)
          have hO4 : O ++ C = O2 := hO3.symm
          have hC2 : Utf8.encode (x : Int) = C := hC
          clear ha HX1 hC hO2 hO3 hO
          go_wp2_with fail
          (with_reducible refine (AL.out _).mono ?_)
          rintro e w2 ⟨rfl, rfl⟩
          go_wp2_with fail
          go_roundg (n - (j + 1) + 1)
          case measure => omega
          case rel => exact ⟨j + 1, O2, rfl, rfl, by go_num, by omega, HO2, rfl⟩
      · obtain rfl : j = n := by omega
        have hT : M.take j = M := by rw [HN.out, ← HML.out, List.take_length]
        have HE := Lib.hid (show O = ⟨(Mt.enc M).toArray⟩ by
          apply ByteArray.ext
          apply Array.toList_inj.1
          rw [HO.out, hT])
        clear hT
        go_wp2_with fail
        go_ret
        exact ⟨by rw [← HE.out]; rfl, Kept.refl _⟩

set_option maxRecDepth 100000 in
set_option maxHeartbeats 16000000 in
theorem RDecode_two (l : List UInt8) (w : World) (hl : l.length ≤ 268435000) (hm : Mt.marked l = true) :
    Calls Try.prog 18 #[.string ⟨l.toArray⟩] w fun e w' => e = .returned (.string ⟨(Mt.enc (Mt.unpair (l.drop 2))).toArray⟩) ∧ Kept w w' := by
  have hsz : (⟨l.toArray⟩ : ByteArray).size = l.length := Mt.text_size l
  obtain ⟨S, hS⟩ : ∃ S : ByteArray, S = ⟨l.toArray⟩ := ⟨_, rfl⟩
  have HG := Lib.hid (show ∀ (j : Nat) (h : j < S.size) (h2 : j < l.length), S[j] = l[j] by subst hS; intro j h h2; rfl)
  have HW := Mt.marked_ways S
  rw [show S.data.toList = l by rw [hS]] at HW
  rw [← hS] at hsz ⊢
  obtain ⟨n, hn⟩ : ∃ n, n = l.length := ⟨_, rfl⟩
  rw [← hn] at hsz hl
  have HN := Lib.hid hn
  obtain ⟨U, hU⟩ : ∃ U, U = Mt.unpair (l.drop 2) := ⟨_, rfl⟩
  rw [← hU]
  have HU := Lib.hid hU
  clear hS hn hU
  rcases HW with ⟨hmk, hz, h0, h1⟩ | ⟨hmk, -⟩
  case inr => rw [hmk] at hm; cases hm
  have y0 : ¬ (S.size : Int) < 2 := by omega
  have y1 : (0 : Int) < (S.size : Int) := by omega
  have y2 : (1 : Int) < (S.size : Int) := by omega
  have b0 := Mt.byte_is h0 254 rfl
  have b1 := Mt.byte_is h1 255 rfl
  have b2 : ((S[0].toNat : Int) != 254) = false := by rw [bne, b0]; rfl
  have b3 : ((S[1].toNat : Int) != 255) = false := by rw [bne, b1]; rfl
  have hn2 : 2 ≤ n := by omega
  clear hmk hm h0 h1
  go_enter Try.func18, Try.ntmps18
  go_wp2_with fail
  clear b0 b1 b2 b3 y0 y1 y2
  go_loopg [3, 6] (n - 2 + 1) (fun m x y wr => ∃ (j : Nat) (acc : List Nat) (O : ByteArray), m = n - j + 1 ∧ .string O = x ∧ y = .int .i64 j ∧ j ≤ n ∧ 2 ≤ j ∧ O.data.toList = Mt.enc acc ∧ Hid (U = acc ++ Mt.unpair (l.drop j)) ∧ acc.length ≤ j ∧ Kept w wr)
  case atStart => exact ⟨2, [], _, rfl, rfl, rfl, hn2, Nat.le_refl _, rfl, Lib.hid HU.out, by simp, Kept.refl _⟩
  case round =>
    obtain ⟨j, acc, O, hmj, rfl, rfl, hj, hj2, hO, HN0, hal, hk⟩ := hrel
    have HK := Lib.hid hk
    have hacc : acc.length ≤ 268435000 := by omega
    have HOO := Lib.hid hO
    clear hk
    by_cases hlt : j < n
    · have hlt2 : j < l.length := by rw [← HN.out]; exact hlt
      have hj0 : (0 : Int) ≤ (j : Int) := by omega
      by_cases hend : j + 1 = n
      · have HD := Lib.hid (show l.drop j = [l[j]] by
          rw [List.drop_eq_getElem_cons hlt2, List.drop_eq_nil_of_le (by rw [← HN.out]; omega)])
        have HU2 := Lib.hid (show U = acc ++ [65533] by rw [HN0.out, HD.out, Mt.unpair_cons _ (by simp)]; rfl)
        obtain ⟨C, hC, hO2, hs1, hs2⟩ := Mt.cat_enc acc 65533 O hO hacc
        have hCl : C = ⟨#[239, 191, 189]⟩ := by rw [← hC]; rfl
        subst hCl
        have HE := Lib.hid (show O ++ (⟨#[239, 191, 189]⟩ : ByteArray) = ⟨(Mt.enc U).toArray⟩ by
          apply ByteArray.ext
          apply Array.toList_inj.1
          rw [hO2, HU2.out])
        have q0 : ((j : Int) + 1 == (n : Int)) = true := by rw [beq_iff_eq]; omega
        have hs3 : (⟨#[239, 191, 189]⟩ : ByteArray).size = 3 := rfl
        clear hC hO2 hend hO
        go_wp2_with fail
        go_ret
        exact ⟨by rw [← HE.out]; rfl, HK.out⟩
      · have h1l : j + 1 < l.length := by rw [← HN.out]; omega
        have q0 : ((j : Int) + 1 == (n : Int)) = false := by rw [beq_eq_false_iff_ne]; omega
        have q1 : (j : Int) + 1 < (n : Int) := by omega
        have hw1 : IntKind.i64.wrap ((j : Int) + 1) = (j : Int) + 1 := by rw [IntKind.wrap_i64]; omega
        have hj1' : (0 : Int) ≤ (j : Int) + 1 := by omega
        obtain ⟨a, ha⟩ : ∃ a, a = l[j].toNat := ⟨_, rfl⟩
        obtain ⟨b, hb⟩ : ∃ b, b = l[j + 1].toNat := ⟨_, rfl⟩
        have ha1 : a < 256 := by rw [ha]; exact l[j].toNat_lt
        have hb1 : b < 256 := by rw [hb]; exact l[j + 1].toNat_lt
        have hi : ((S[j]'(by rw [hsz]; exact hlt)).toNat : Int) = (a : Int) := by rw [HG.out j (by rw [hsz]; exact hlt) hlt2, ha]
        have hi2 : ((S[j + 1]'(by rw [hsz]; omega)).toNat : Int) = (b : Int) := by rw [HG.out (j + 1) (by rw [hsz]; omega) h1l, hb]
        obtain ⟨r, hr⟩ : ∃ r, r = Mt.num2 l[j] l[j + 1] := ⟨_, rfl⟩
        obtain ⟨t, ht1, ht2⟩ := Mt.fstC_at l j h1l
        have HF := Lib.hid (show Mt.fstC (l.drop j) = if r < 55296 ∨ 57343 < r then (r, 2) else if r < 56320 then Mt.low2 r t else (65533, 2) by rw [ht1, Mt.fstC_two, ← hr])
        have HUN := Lib.hid (fun v d (h : Mt.fstC (l.drop j) = (v, d)) => (show U = (acc ++ [v]) ++ Mt.unpair (l.drop (j + d)) by
          rw [HN0.out, Mt.unpair_cons (l.drop j) (by rw [ht1]; simp), h, List.drop_drop, List.append_assoc]; rfl))
        obtain ⟨z, hz⟩ : ∃ z : Int, z = (r : Int) := ⟨_, rfl⟩
        have hr0 : r ≤ 65535 := by rw [hr]; exact Mt.num2_lt _ _
        have hzv : (a : Int) * 256 + (b : Int) = z := by rw [hz, hr, ha, hb]; unfold Mt.num2; omega
        have hw2 : IntKind.i64.wrap ((a : Int) * 256) = (a : Int) * 256 := by rw [IntKind.wrap_i64]; omega
        have hw3 : IntKind.i64.wrap (z) = z := by rw [IntKind.wrap_i64]; omega
        have z0 : 0 ≤ z := by omega
        have z1 : z ≤ 65535 := by omega
        have HZ := Lib.hid hz
        have HR0 := Lib.hid hr0
        have HT1 := Lib.hid ht1
        have HT2 := Lib.hid ht2
        clear ha hb ht1 ht2 hend hr hr0 hz
        by_cases c1 : z < 55296
        · have HV := Lib.hid (HUN.out r 2 (by have := HZ.out; rw [HF.out, if_pos (by omega)]))
          obtain ⟨C, hC, hO2, hs1, hs2⟩ := Mt.cat_enc acc r O hO hacc
          obtain ⟨O2, hO3⟩ : ∃ O2, O2 = O ++ C := ⟨_, rfl⟩
          have HO2 := Lib.hid (show O2.data.toList = Mt.enc (acc ++ [r]) by rw [hO3]; exact hO2)
          have hO4 : O ++ C = O2 := hO3.symm
          have hC2 : Utf8.encode z = C := by rw [HZ.out]; exact hC
          clear hC hO2 hO3 hO
          go_wp2_with fail
          go_quiet (fail)
          go_wp2_with fail
          go_roundg (n - (j + 2) + 1)
          case measure => omega
          case rel => exact ⟨j + 2, acc ++ [r], O2, rfl, rfl, by go_num, by omega, by omega, HO2.out, HV, by simp; omega, by repeat (with_reducible first | exact HK.out | refine Kept.drew ?_ | refine Kept.drewN ?_ _)⟩
        by_cases c2 : 57343 < z
        · have HV := Lib.hid (HUN.out r 2 (by have := HZ.out; rw [HF.out, if_pos (by omega)]))
          obtain ⟨C, hC, hO2, hs1, hs2⟩ := Mt.cat_enc acc r O hO hacc
          obtain ⟨O2, hO3⟩ : ∃ O2, O2 = O ++ C := ⟨_, rfl⟩
          have HO2 := Lib.hid (show O2.data.toList = Mt.enc (acc ++ [r]) by rw [hO3]; exact hO2)
          have hO4 : O ++ C = O2 := hO3.symm
          have hC2 : Utf8.encode z = C := by rw [HZ.out]; exact hC
          clear hC hO2 hO3 hO
          go_wp2_with fail
          go_quiet (fail)
          go_wp2_with fail
          go_roundg (n - (j + 2) + 1)
          case measure => omega
          case rel => exact ⟨j + 2, acc ++ [r], O2, rfl, rfl, by go_num, by omega, by omega, HO2.out, HV, by simp; omega, by repeat (with_reducible first | exact HK.out | refine Kept.drew ?_ | refine Kept.drewN ?_ _)⟩
        by_cases c3 : 56319 < z
        · have HV := Lib.hid (HUN.out 65533 2 (by have := HZ.out; rw [HF.out, if_neg (by omega), if_neg (by omega)]))
          obtain ⟨C, hC, hO2, hs1, hs2⟩ := Mt.cat_enc acc 65533 O hO hacc
          obtain ⟨O2, hO3⟩ : ∃ O2, O2 = O ++ C := ⟨_, rfl⟩
          have HO2 := Lib.hid (show O2.data.toList = Mt.enc (acc ++ [65533]) by rw [hO3]; exact hO2)
          have hO4 : O ++ C = O2 := hO3.symm
          have hC2 : Utf8.encode 65533 = C := hC
          clear hC hO2 hO3 hO
          go_wp2_with fail
          go_quiet (fail)
          go_wp2_with fail
          go_roundg (n - (j + 2) + 1)
          case measure => omega
          case rel => exact ⟨j + 2, acc ++ [65533], O2, rfl, rfl, by go_num, by omega, by omega, HO2.out, HV, by simp; omega, by repeat (with_reducible first | exact HK.out | refine Kept.drew ?_ | refine Kept.drewN ?_ _)⟩
        by_cases c4 : ¬ (j : Int) + 3 < (n : Int)
        · have HV := Lib.hid (HUN.out 65533 2 (by
            have := HZ.out
            rw [HF.out, if_neg (by omega), if_pos (by omega)]
            have hl3 : t.length ≤ 1 := by rw [HT2.out, List.length_drop, ← HN.out]; omega
            match t, hl3 with
            | [], _ => rfl
            | [_], _ => rfl))
          obtain ⟨C, hC, hO2, hs1, hs2⟩ := Mt.cat_enc acc 65533 O hO hacc
          obtain ⟨O2, hO3⟩ : ∃ O2, O2 = O ++ C := ⟨_, rfl⟩
          have HO2 := Lib.hid (show O2.data.toList = Mt.enc (acc ++ [65533]) by rw [hO3]; exact hO2)
          have hO4 : O ++ C = O2 := hO3.symm
          have hC2 : Utf8.encode 65533 = C := hC
          have hw4 : IntKind.i64.wrap ((j : Int) + 3) = (j : Int) + 3 := by rw [IntKind.wrap_i64]; omega
          clear hC hO2 hO3 hO
          go_wp2_with fail
          go_quiet (fail)
          go_wp2_with fail
          go_roundg (n - (j + 2) + 1)
          case measure => omega
          case rel => exact ⟨j + 2, acc ++ [65533], O2, rfl, rfl, by go_num, by omega, by omega, HO2.out, HV, by simp; omega, by repeat (with_reducible first | exact HK.out | refine Kept.drew ?_ | refine Kept.drewN ?_ _)⟩
        have c5 : (j : Int) + 3 < (n : Int) := by omega
        clear c4
        have h2l : j + 2 < l.length := by rw [← HN.out]; omega
        have h3l : j + 3 < l.length := by rw [← HN.out]; omega
        obtain ⟨a2, ha2⟩ : ∃ a, a = l[j + 2].toNat := ⟨_, rfl⟩
        obtain ⟨b2, hb2⟩ : ∃ b, b = l[j + 3].toNat := ⟨_, rfl⟩
        have ha3 : a2 < 256 := by rw [ha2]; exact l[j + 2].toNat_lt
        have hb3 : b2 < 256 := by rw [hb2]; exact l[j + 3].toNat_lt
        have hi3 : ((S[j + 2]'(by rw [hsz]; omega)).toNat : Int) = (a2 : Int) := by rw [HG.out (j + 2) (by rw [hsz]; omega) h2l, ha2]
        have hi4 : ((S[j + 3]'(by rw [hsz]; omega)).toNat : Int) = (b2 : Int) := by rw [HG.out (j + 3) (by rw [hsz]; omega) h3l, hb2]
        obtain ⟨q, hq⟩ : ∃ q, q = Mt.num2 l[j + 2] l[j + 3] := ⟨_, rfl⟩
        have HL2 := Lib.hid (show Mt.fstC (l.drop j) = if 56320 ≤ q ∧ q ≤ 57343 then (65536 + (r - 55296) * 1024 + (q - 56320), 4) else (65533, 2) by
          have := HZ.out
          rw [HF.out, if_neg (by omega), if_pos (by omega), HT2.out, List.drop_eq_getElem_cons h2l, List.drop_eq_getElem_cons h3l, hq]; rfl)
        obtain ⟨y, hy⟩ : ∃ y : Int, y = (q : Int) := ⟨_, rfl⟩
        have hq0 : q ≤ 65535 := by rw [hq]; exact Mt.num2_lt _ _
        have hyv : (a2 : Int) * 256 + (b2 : Int) = y := by rw [hy, hq, ha2, hb2]; unfold Mt.num2; omega
        have hw5 : IntKind.i64.wrap ((a2 : Int) * 256) = (a2 : Int) * 256 := by rw [IntKind.wrap_i64]; omega
        have hw6 : IntKind.i64.wrap (y) = y := by rw [IntKind.wrap_i64]; omega
        have hw7 : IntKind.i64.wrap ((j : Int) + 2) = (j : Int) + 2 := by rw [IntKind.wrap_i64]; omega
        have hw8 : IntKind.i64.wrap ((j : Int) + 3) = (j : Int) + 3 := by rw [IntKind.wrap_i64]; omega
        have q2 : (j : Int) + 2 < (n : Int) := by omega
        have q3 : (0 : Int) ≤ (j : Int) + 2 := by omega
        have q4 : (0 : Int) ≤ (j : Int) + 3 := by omega
        have yy0 : 0 ≤ y := by omega
        have yy1 : y ≤ 65535 := by omega
        have HY := Lib.hid hy
        clear ha2 hb2 hq hy hq0
        by_cases d1 : y < 56320
        · have HV := Lib.hid (HUN.out 65533 2 (by have := HY.out; rw [HL2.out, if_neg (by omega)]))
          obtain ⟨C, hC, hO2, hs1, hs2⟩ := Mt.cat_enc acc 65533 O hO hacc
          obtain ⟨O2, hO3⟩ : ∃ O2, O2 = O ++ C := ⟨_, rfl⟩
          have HO2 := Lib.hid (show O2.data.toList = Mt.enc (acc ++ [65533]) by rw [hO3]; exact hO2)
          have hO4 : O ++ C = O2 := hO3.symm
          have hC2 : Utf8.encode 65533 = C := hC
          clear hC hO2 hO3 hO
          go_wp2_with fail
          go_quiet (fail)
          go_wp2_with fail
          go_quiet (fail)
          go_wp2_with fail
          go_roundg (n - (j + 2) + 1)
          case measure => omega
          case rel => exact ⟨j + 2, acc ++ [65533], O2, rfl, rfl, by go_num, by omega, by omega, HO2.out, HV, by simp; omega, by repeat (with_reducible first | exact HK.out | refine Kept.drew ?_ | refine Kept.drewN ?_ _)⟩
        by_cases d2 : 57343 < y
        · have HV := Lib.hid (HUN.out 65533 2 (by have := HY.out; rw [HL2.out, if_neg (by omega)]))
          obtain ⟨C, hC, hO2, hs1, hs2⟩ := Mt.cat_enc acc 65533 O hO hacc
          obtain ⟨O2, hO3⟩ : ∃ O2, O2 = O ++ C := ⟨_, rfl⟩
          have HO2 := Lib.hid (show O2.data.toList = Mt.enc (acc ++ [65533]) by rw [hO3]; exact hO2)
          have hO4 : O ++ C = O2 := hO3.symm
          have hC2 : Utf8.encode 65533 = C := hC
          clear hC hO2 hO3 hO
          go_wp2_with fail
          go_quiet (fail)
          go_wp2_with fail
          go_quiet (fail)
          go_wp2_with fail
          go_roundg (n - (j + 2) + 1)
          case measure => omega
          case rel => exact ⟨j + 2, acc ++ [65533], O2, rfl, rfl, by go_num, by omega, by omega, HO2.out, HV, by simp; omega, by repeat (with_reducible first | exact HK.out | refine Kept.drew ?_ | refine Kept.drewN ?_ _)⟩
        · obtain ⟨v, hv⟩ : ∃ v, v = 65536 + (r - 55296) * 1024 + (q - 56320) := ⟨_, rfl⟩
          have HV := Lib.hid (HUN.out v 4 (by have := HY.out; rw [HL2.out, if_pos (by omega), hv]))
          obtain ⟨zv, hzv2⟩ : ∃ zv : Int, zv = (v : Int) := ⟨_, rfl⟩
          have hvz : 65536 + (z - 55296) * 1024 + y - 56320 = zv := by have := HY.out; have := HZ.out; omega
          have v0 : 65536 ≤ zv := by omega
          have v1 : zv ≤ 1114111 := by omega
          have v2 : ¬ zv ≤ 57343 := by omega
          obtain ⟨C, hC, hO2, hs1, hs2⟩ := Mt.cat_enc acc v O hO hacc
          obtain ⟨O2, hO3⟩ : ∃ O2, O2 = O ++ C := ⟨_, rfl⟩
          have HO2 := Lib.hid (show O2.data.toList = Mt.enc (acc ++ [v]) by rw [hO3]; exact hO2)
          have hO4 : O ++ C = O2 := hO3.symm
          have hC2 : Utf8.encode zv = C := by rw [hzv2]; exact hC
          clear hC hO2 hO3 hO hv hzv2
          go_wp2_with fail
          go_quiet (fail)
          go_wp2_with fail
          go_quiet (fail)
          go_wp2_with fail
          go_roundg (n - (j + 4) + 1)
          case measure => omega
          case rel => exact ⟨j + 4, acc ++ [v], O2, rfl, rfl, by go_num, by omega, by omega, HO2.out, HV, by simp; omega, by repeat (with_reducible first | exact HK.out | refine Kept.drew ?_ | refine Kept.drewN ?_ _)⟩
    · obtain rfl : j = n := by omega
      have HU3 := Lib.hid (show U = acc by rw [HN0.out, List.drop_eq_nil_of_le (by rw [← HN.out]; exact Nat.le_refl _), Mt.unpair_nil, List.append_nil])
      have HE := Lib.hid (show O = ⟨(Mt.enc U).toArray⟩ by
        apply ByteArray.ext
        apply Array.toList_inj.1
        rw [hO, HU3.out])
      clear hO
      go_wp2_with fail
      go_ret
      exact ⟨by rw [← HE.out]; rfl, HK.out⟩

theorem RDecode_any (l : List UInt8) (w : World) (hl : l.length ≤ 268435000) :
    Calls Try.prog 18 #[.string ⟨l.toArray⟩] w fun e w' => e = .returned (.string ⟨(Mt.decodeV l).toArray⟩) ∧ Kept w w' := by
  cases hm : Mt.marked l
  · rw [show Mt.decodeV l = Mt.enc (l.map Mt.char1) by unfold Mt.decodeV Mt.chars; rw [hm]; rfl]
    exact RDecode_one l w hl hm
  · rw [show Mt.decodeV l = Mt.enc (Mt.unpair (l.drop 2)) by unfold Mt.decodeV Mt.chars; rw [hm]; rfl]
    exact RDecode_two l w hl hm

end Go.Proofs.Ytkgaddlclfjkmaa
