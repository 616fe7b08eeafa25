/-
  The reference's Raw: what is pressed, and what stands as it is.
-/
import Derived.Test.YtpplboihlndfpaaDefRefCode
import Derived.Test.YtpplboihlndfpaaDefRefFind
import Derived.Test.YtpplboihlndfpaaDefRefTokens
import Derived.Test.YtpplboihlndfpaaDefRaw
namespace Go.Proofs.Ytpplboihlndfpaa
open Go.RowKit Ix Dx
set_option linter.unusedSimpArgs false
set_option linter.unusedVariables false

theorem RSy.gr {w w' : World} {b : Nat} {sv sv' : Value} {bs : List Nat} (h : RSy w b sv bs) (g : Gr w b sv w' sv') : Below b w w' :=
  g.below (fun k e => Nat.le_of_lt (h.low k e)) (Nat.le_of_lt h.blk.lt)
/-- Tokens of few bytes. -/
def TokS (t : Tok) : Prop := t.len = 0 ∨ ∃ n d : Nat, t.len = (n : Int) ∧ t.dist = (d : Int) ∧ 3 ≤ n ∧ n ≤ 258 ∧ 1 ≤ d ∧ d ≤ 600
theorem toks_few (b : List UInt8) (h : b.length ≤ 600) : ∀ f i, ∀ t ∈ toks b f i, TokS t
  | 0, i, t, ht => by cases ht
  | f + 1, i, t, ht => by
    rw [toks] at ht
    split at ht
    · rename_i hi
      split at ht
      · rcases List.mem_cons.1 ht with rfl | ht
        · exact .inl rfl
        · exact toks_few b h f _ t ht
      · rename_i h0
        rcases List.mem_cons.1 ht with rfl | ht
        · obtain ⟨a1, a2, a3, a4, a5, a6, a7⟩ := (long_best b i).some h0
          have hM := M_le b i (i - (long b i).2)
          have htp := top_le b i
          exact .inr ⟨_, _, rfl, rfl, a1, by omega, by omega, by omega⟩
        · exact toks_few b h f _ t ht
    · cases ht
theorem sym_le9 (s : Nat) : (symBits s).length ≤ 9 := by unfold symBits; rw [codeBits_len]; exact symN_le s
theorem spn27 (n : Nat) (h : n < 256) : spnV n 4 ≤ 27 := by
  have key : (List.range 256).all (fun n => decide (spnV n 4 ≤ 27)) = true := by kernel_rfl
  exact of_decide_eq_true (List.all_eq_true.1 key n (List.mem_range.2 h))

set_option maxRecDepth 100000 in
set_option maxHeartbeats 4000000 in
theorem refRaw1_any (b : List UInt8) (p : Option Addr) (c : Nat) (w : World) (h : ByR w w.heap.size p b) (hB : b.length ≤ 500) :
    Calls Try.prog 10 #[.slice p b.length c, .int .i64 1] w (DRawA w (.ok (pressV (tokens b)))) := by
  have HB := Lib.hid h
  clear h
  have i0 : ¬ (1048576 : Int) < (b.length : Int) := by omega
  go_enter Try.func10, Try.ntmps10
  go_upto_region 6 with fail
  have S0 := Lib.hid (show RSy (w.alloc (.cells #[.slice none 0 0, .int .i64 0] 46)) w.heap.size (.slice none 0 0) [] from
    ⟨Blk.fresh w _ _, World.ownsRow_nil _ _ _ _, fun x hx => by cases hx⟩)
  have K0 := Lib.hid ((Kept.refl w).allocO (.cells #[.slice none 0 0, .int .i64 0] 46))
  obtain ⟨W0, hW0⟩ : ∃ W0, W0 = w.alloc (.cells #[.slice none 0 0, .int .i64 0] 46) := ⟨_, rfl⟩
  rw [← hW0] at S0 K0 ⊢
  obtain ⟨sb, hsb⟩ : ∃ sb, sb = w.heap.size := ⟨_, rfl⟩
  rw [← hsb] at S0 ⊢
  have hs6 : w.heap.size ≤ sb := by omega
  clear hW0 hsb
  have P1 := Lib.hid (show Calls Try.prog 21 #[.pointer (some ⟨sb, 0, none⟩), .int .i64 3, .int .i64 3] W0 fun e w' => e = .returned (.tuple #[]) ∧ RSyR W0 sb (.slice none 0 0) [1, 1, 0] w' from refPut_any 3 3 (by decide) (by decide) S0.out (by decide))
  go_wp2_with fail
  (with_reducible refine P1.out.mono ?_)
  rintro e w1 ⟨rfl, sv1, hs1, hg1⟩
  have S1 := Lib.hid hs1
  have K1 := Lib.hid (show Kept w w1 from Below.trans K0.out (Below.mono (S0.out.gr hg1) hs6))
  have TK := Lib.hid (refTokens_any b p c w1 (fun i hi => by
    obtain ⟨kb, o, h1, h2, h3⟩ := (HB.out.keep (Nat.le_refl _) K1.out) i hi
    exact ⟨kb, o, h1, by have := Below.size K1.out; omega, h3⟩) (by omega))
  clear hs1 hg1 P1
  go_wp2_with fail
  (with_reducible refine TK.out.mono ?_)
  rintro e w2 ⟨v2, rfl, ht2, hk2⟩
  have S2 := Lib.hid (S1.out.kept hk2)
  have K2 := Lib.hid (K1.out.trans hk2)
  have hs12 := Below.size hk2
  obtain ⟨q, dd, rfl, -, -⟩ := ht2.shape
  have hsb1 := S1.out.blk.lt
  have TR := Lib.hid (fun wr sv (g : Gr w2 sb sv1 wr sv) => (show TokR wr w2.heap.size q (tokens b) from fun i hi => by
    obtain ⟨kb, o, hq, hk, c0, c1, c2⟩ := ht2.tokR i hi
    have hlow := (ht2.lt kb (by rw [hq]; rfl)).1
    have e := g.block kb hk (by omega) (fun e => by have := (S1.out.own.lt kb e).2; omega)
    exact ⟨kb, o, hq, hk, (World.cell?_of_block e).trans c0, (World.cell?_of_block e).trans c1, (World.cell?_of_block e).trans c2⟩))
  have HFEW := Lib.hid (show ∀ t ∈ tokens b, TokS t from toks_few b (by omega) _ _)
  have HOK := Lib.hid (show ∀ t ∈ tokens b, TokOK t from toks_ok b _ _)
  have htl := tokens_len b
  obtain ⟨l, hl⟩ : ∃ l, l = tokens b := ⟨_, rfl⟩
  have HPV := Lib.hid (show pressV (tokens b) = pkL ([1, 1, 0] ++ toksBits l ++ symBits 256) by rw [hl]; rfl)
  rw [← hl] at TR HFEW HOK htl ⊢
  clear ht2 hk2 TK hl
  go_wp2_with fail
  go_loopg [8] l.length (fun m y wr => ∃ (j : Nat) (sv : Value), m = l.length - j ∧ j ≤ l.length ∧ y = .int .i64 j ∧ RSy wr sb sv ([1, 1, 0] ++ toksBits (l.take j)) ∧ Gr w2 sb sv1 wr sv)
  case atStart => exact ⟨0, sv1, rfl, Nat.zero_le _, rfl, S2.out, Gr.refl _ _ _⟩
  case round =>
    obtain ⟨j, sv, hm, hj, rfl, hs, hg⟩ := hrel
    have HS := Lib.hid hs
    have HG := Lib.hid hg
    have hsbl := hs.blk.lt
    have htb := toksBits_le (l.take j) (fun t ht => HOK.out t (List.mem_of_mem_take ht))
    have hlen : ([1, 1, 0] ++ toksBits (l.take j)).length + 400 ≤ 1099511627776 := by
      rw [List.length_append]; simp at htb ⊢; omega
    obtain ⟨bs, hbs⟩ : ∃ bs, bs = [1, 1, 0] ++ toksBits (l.take j) := ⟨_, rfl⟩
    have HBS := Lib.hid hbs
    rw [← hbs] at HS hlen
    clear hs hg htb hbs
    by_cases hlt : j < l.length
    · have j1 : (j : Int) < (l.length : Int) := by omega
      obtain ⟨kb, ofs, hp, hkb, c0, c1, c2⟩ := (TR.out wr sv HG.out) j hlt
      subst hp
      have hfew := HFEW.out l[j] (List.getElem_mem hlt)
      have HTK := Lib.hid (show bs ++ tokBits l[j] = [1, 1, 0] ++ toksBits (l.take (j + 1)) by
        rw [HBS.out, List.take_succ_eq_append_getElem hlt, toksBits_app, toksBits, toksBits, List.append_nil, List.append_assoc])
      have KA := Lib.hid (show Kept wr (wr.alloc (.cells #[.int .u8 (l[j].lit.toNat : Int), .int .i64 l[j].len, .int .i64 l[j].dist] 48)) from (Kept.refl wr).allocO _)
      have BA := Lib.hid (Blk.fresh wr #[.int .u8 (l[j].lit.toNat : Int), .int .i64 l[j].len, .int .i64 l[j].dist] 48)
      have SA := Lib.hid (HS.out.kept KA.out)
      have GA := Lib.hid (HG.out.trans (Gr.ofKept (b := sb) (v := sv) KA.out))
      obtain ⟨t, ht⟩ : ∃ t, t = l[j] := ⟨_, rfl⟩
      rw [← ht] at c0 c1 c2 KA BA SA GA HTK hfew
      clear ht
      rcases hfew with h0 | ⟨n, d, hn, hd, n3, n258, d1, d600⟩
      · have SP := Lib.hid (refSymbol_any t.lit.toNat (by have := t.lit.toNat_lt; omega) SA.out (by omega))
        have HTK2 := Lib.hid (show bs ++ symBits t.lit.toNat = [1, 1, 0] ++ toksBits (l.take (j + 1)) by
          rw [← HTK.out]; unfold tokBits; rw [if_pos h0])
        rw [HTK2.out] at SP
        rw [h0] at c1 KA BA SA GA SP
        have wz : wrap64 (t.lit.toNat : Int) = (t.lit.toNat : Int) := IntWalk.wrap64_in _ (by have := t.lit.toNat_lt; omega)
        clear h0 HTK HTK2
        go_wp2_with fail
        (with_reducible refine SP.out.mono ?_)
        rintro e w9 ⟨rfl, sv9, hs9, hg9⟩
        have S9 := Lib.hid hs9
        have G9 := Lib.hid (GA.out.trans hg9)
        clear hs9 hg9
        go_wp2_with fail
        go_roundg (l.length - (j + 1))
        case measure => omega
        case rel => exact ⟨j + 1, sv9, rfl, by omega, by go_num, S9.out, G9.out⟩
      · have htn : tokBits t = lenBits n ++ distBits d := by
          unfold tokBits
          rw [if_neg (by omega), hn, hd, Int.toNat_natCast, Int.toNat_natCast]
        rw [htn] at HTK
        rw [hn, hd] at KA BA SA GA
        rw [hn] at c1
        rw [hd] at c2
        obtain ⟨f1, f2, f3⟩ := spanOK_is (span4 (n - 3) (by omega))
        have f4 := spn27 (n - 3) (by omega)
        have f5 := wid_len (n - 3) (by omega)
        obtain ⟨g1, g2, g3⟩ := spanOK_is (span2 (d - 1) (by omega))
        have g4 := spn_dist (d - 1) (by omega)
        have g5 := wid_dist (d - 1) (by omega)
        have FL := find34 n (n - 3) (spnV (n - 3) 4) (by omega) (by omega) (by omega) f1
        have FD := find12 d (d - 1) (spnV (d - 1) 2) (by omega) (by omega) (by omega) g1
        rw [f2] at FL
        rw [g2] at FD
        have HDB : distBits d = codeBits (spnV (d - 1) 2) 5 ++ numBits (d - 1) (widV (d - 1) 2) := rfl
        rw [← g3] at HDB
        obtain ⟨K, hK⟩ : ∃ K, K = spnV (n - 3) 4 := ⟨_, rfl⟩
        obtain ⟨wl, hwl⟩ : ∃ wl, wl = widV (n - 3) 4 := ⟨_, rfl⟩
        obtain ⟨rl, hrl⟩ : ∃ rl, rl = n - 3 - stV 4 K := ⟨_, rfl⟩
        obtain ⟨KD, hKD⟩ : ∃ KD, KD = spnV (d - 1) 2 := ⟨_, rfl⟩
        obtain ⟨wd, hwd⟩ : ∃ wd, wd = widV (d - 1) 2 := ⟨_, rfl⟩
        obtain ⟨rd, hrd⟩ : ∃ rd, rd = d - 1 - stV 2 KD := ⟨_, rfl⟩
        rw [← hK] at f3 f4 FL
        rw [← hwl] at f3 f5 FL
        rw [← hrl] at f3 FL
        rw [← hKD] at g4 FD HDB
        rw [← hwd] at g5 FD HDB
        rw [← hrd] at FD HDB
        have hLB : n ≠ 258 → lenBits n = symBits (257 + K) ++ numBits rl wl := fun e => by
          unfold lenBits
          rw [if_neg e, f3, hK, hwl]
        have hrl2 : rl ≤ 258 := by omega
        have hrd2 : rd ≤ 600 := by omega
        have FL := Lib.hid FL
        have FD := Lib.hid FD
        clear f1 f2 f3 g1 g2 g3 hK hwl hrl hKD hwd hrd htn hn hd
        have hne2 : (n : Int) ≠ 0 := by omega
        have z0 : ((n : Int) == 0) = false := by rw [beq_eq_false_iff_ne]; exact hne2
        go_upto_region 13 with fail
        obtain ⟨WA, hWA⟩ : ∃ WA, WA = wr.alloc (.cells #[.int .u8 (t.lit.toNat : Int), .int .i64 n, .int .i64 d] 48) := ⟨_, rfl⟩
        rw [← hWA] at KA BA SA GA ⊢
        obtain ⟨tb, htb⟩ : ∃ tb, tb = wr.heap.size := ⟨_, rfl⟩
        rw [← htb] at BA ⊢
        have TBF := Lib.hid (fun w' sv' (g : Gr WA sb sv w' sv') => (show Blk w' tb #[.int .u8 (t.lit.toNat : Int), .int .i64 n, .int .i64 d] 48 from (g.block tb BA.out.lt (by omega) (fun e => by have := (HS.out.own.lt tb e).2; omega)).trans BA.out))
        obtain ⟨e0, e1, e2⟩ := BA.out.cells3
        clear hWA htb c0 c1 c2 HG
        go_wp2_with fail
        (with_reducible refine (FL.out WA).mono ?_)
        rintro e w3 ⟨rfl, hk3⟩
        have G3 := Lib.hid (show Gr WA sb sv w3 sv from Gr.ofKept hk3)
        have S3 := Lib.hid (SA.out.kept hk3)
        obtain ⟨e0, e1, e2⟩ := (TBF.out w3 sv G3.out).cells3
        clear hk3
        have hsl9 : ∀ s, (bs ++ symBits s).length + 300 ≤ 1099511627776 := fun s => by
          have := sym_le9 s
          rw [List.length_append]; omega
        by_cases h258 : n = 258
        · subst h258
          have SP := Lib.hid (show Calls Try.prog 22 #[.pointer (some ⟨sb, 0, none⟩), .int .i64 285] w3 _ from refSymbol_any 285 (by decide) S3.out (by omega))
          have HL2 := Lib.hid (show nb rl (bs ++ symBits 285) 0 = bs ++ lenBits 258 by unfold nb lenBits; rw [if_pos rfl, numBits, List.append_nil])
          have HLL := Lib.hid (show (bs ++ lenBits 258).length + 200 ≤ 1099511627776 by
            have := hsl9 285
            unfold lenBits; rw [if_pos rfl]; omega)
          go_wp2_with fail
          (with_reducible refine SP.out.mono ?_)
          rintro e w4 ⟨rfl, sv4, hs4, hg4⟩
          have S4 := Lib.hid hs4
          have G4 := Lib.hid (G3.out.trans hg4)
          clear hs4 hg4
          have PP := Lib.hid (show Calls Try.prog 21 #[.pointer (some ⟨sb, 0, none⟩), .int .i64 rl, .int .i64 0] w4 _ from refPut_any rl 0 (by omega) (by decide) S4.out (by have := hsl9 285; omega))
          rw [HL2.out] at PP
          go_wp2_with fail
          (with_reducible refine PP.out.mono ?_)
          rintro e w5 ⟨rfl, sv5, hs5, hg5⟩
          have S5 := Lib.hid hs5
          have G5 := Lib.hid (G4.out.trans hg5)
          obtain ⟨e0, e1, e2⟩ := (TBF.out w5 sv5 G5.out).cells3
          clear hs5 hg5
          go_wp2_with fail
          (with_reducible refine (FD.out w5).mono ?_)
          rintro e w6 ⟨rfl, hk6⟩
          have S6 := Lib.hid (S5.out.kept hk6)
          have G6 := Lib.hid (G5.out.trans (Gr.ofKept (b := sb) (v := sv5) hk6))
          clear hk6
          have CP := Lib.hid (show Calls Try.prog 24 #[.pointer (some ⟨sb, 0, none⟩), .int .i64 KD, .int .i64 5] w6 _ from refCode_any KD 5 (by omega) (by decide) S6.out (by have := HLL.out; omega))
          go_wp2_with fail
          (with_reducible refine CP.out.mono ?_)
          rintro e w7 ⟨rfl, sv7, hs7, hg7⟩
          have S7 := Lib.hid hs7
          have G7 := Lib.hid (G6.out.trans hg7)
          clear hs7 hg7
          have PD := Lib.hid (refPut_any rd wd (by omega) (by omega) S7.out (by have := HLL.out; rw [List.length_append, codeBits_len]; omega))
          have HF := Lib.hid (show nb rd (bs ++ lenBits 258 ++ codeBits KD 5) wd = [1, 1, 0] ++ toksBits (l.take (j + 1)) by
            rw [← HTK.out, HDB]; unfold nb; simp only [List.append_assoc])
          rw [HF.out] at PD
          go_wp2_with fail
          (with_reducible refine PD.out.mono ?_)
          rintro e w8 ⟨rfl, sv8, hs8, hg8⟩
          have S8 := Lib.hid hs8
          have G8 := Lib.hid (GA.out.trans (G7.out.trans hg8))
          clear hs8 hg8
          go_wp2_with fail
          go_roundg (l.length - (j + 1))
          case measure => omega
          case rel => exact ⟨j + 1, sv8, rfl, by omega, by go_num, S8.out, G8.out⟩
        · have z258 : ((n : Int) == 258) = false := by rw [beq_eq_false_iff_ne]; omega
          obtain ⟨sy, hsy⟩ : ∃ sy, sy = 257 + K := ⟨_, rfl⟩
          have s1 : (257 : Int) + (K : Int) = (sy : Int) := by omega
          have s2 : IntKind.i64.wrap (sy : Int) = (sy : Int) := IntWalk.i64_in _ (by omega)
          have SP := Lib.hid (refSymbol_any sy (by omega) S3.out (by omega))
          have HLB := hLB h258
          rw [← hsy] at HLB
          have HL2 := Lib.hid (show nb rl (bs ++ symBits sy) wl = bs ++ lenBits n by unfold nb; rw [HLB, List.append_assoc])
          have HLL := Lib.hid (show (bs ++ lenBits n).length + 200 ≤ 1099511627776 by
            have := hsl9 sy
            rw [HLB, ← List.append_assoc, List.length_append, numBits_len]; omega)
          clear hsy HLB
          go_wp2_with fail
          (with_reducible refine SP.out.mono ?_)
          rintro e w4 ⟨rfl, sv4, hs4, hg4⟩
          have S4 := Lib.hid hs4
          have G4 := Lib.hid (G3.out.trans hg4)
          clear hs4 hg4
          have PP := Lib.hid (refPut_any rl wl (by omega) (by omega) S4.out (by have := hsl9 sy; omega))
          rw [HL2.out] at PP
          go_wp2_with fail
          (with_reducible refine PP.out.mono ?_)
          rintro e w5 ⟨rfl, sv5, hs5, hg5⟩
          have S5 := Lib.hid hs5
          have G5 := Lib.hid (G4.out.trans hg5)
          obtain ⟨e0, e1, e2⟩ := (TBF.out w5 sv5 G5.out).cells3
          clear hs5 hg5
          go_wp2_with fail
          (with_reducible refine (FD.out w5).mono ?_)
          rintro e w6 ⟨rfl, hk6⟩
          have S6 := Lib.hid (S5.out.kept hk6)
          have G6 := Lib.hid (G5.out.trans (Gr.ofKept (b := sb) (v := sv5) hk6))
          clear hk6
          have CP := Lib.hid (show Calls Try.prog 24 #[.pointer (some ⟨sb, 0, none⟩), .int .i64 KD, .int .i64 5] w6 _ from refCode_any KD 5 (by omega) (by decide) S6.out (by have := HLL.out; omega))
          go_wp2_with fail
          (with_reducible refine CP.out.mono ?_)
          rintro e w7 ⟨rfl, sv7, hs7, hg7⟩
          have S7 := Lib.hid hs7
          have G7 := Lib.hid (G6.out.trans hg7)
          clear hs7 hg7
          have PD := Lib.hid (refPut_any rd wd (by omega) (by omega) S7.out (by have := HLL.out; rw [List.length_append, codeBits_len]; omega))
          have HF := Lib.hid (show nb rd (bs ++ lenBits n ++ codeBits KD 5) wd = [1, 1, 0] ++ toksBits (l.take (j + 1)) by
            rw [← HTK.out, HDB]; unfold nb; simp only [List.append_assoc])
          rw [HF.out] at PD
          go_wp2_with fail
          (with_reducible refine PD.out.mono ?_)
          rintro e w8 ⟨rfl, sv8, hs8, hg8⟩
          have S8 := Lib.hid hs8
          have G8 := Lib.hid (GA.out.trans (G7.out.trans hg8))
          clear hs8 hg8
          go_wp2_with fail
          go_roundg (l.length - (j + 1))
          case measure => omega
          case rel => exact ⟨j + 1, sv8, rfl, by omega, by go_num, S8.out, G8.out⟩
    · obtain rfl : j = l.length := by omega
      have HE := Lib.hid (show bs ++ symBits 256 = [1, 1, 0] ++ toksBits l ++ symBits 256 by rw [HBS.out, List.take_length])
      have SP := Lib.hid (show Calls Try.prog 22 #[.pointer (some ⟨sb, 0, none⟩), .int .i64 256] wr _ from refSymbol_any 256 (by decide) HS.out (by omega))
      rw [HE.out] at SP
      go_wp2_with fail
      (with_reducible refine SP.out.mono ?_)
      rintro e w9 ⟨rfl, sv9, hs9, hg9⟩
      have S9 := Lib.hid hs9
      have G9 := Lib.hid (HG.out.trans hg9)
      obtain ⟨d0, d1⟩ := hs9.blk.cells2
      clear hs9 hg9
      go_wp2_with fail
      go_ret2
      exact ⟨Below.trans K2.out (Below.mono (S2.out.gr G9.out) hs6), _, rfl, by rw [HPV.out]; exact S9.out.own.base (by omega)⟩

end Go.Proofs.Ytpplboihlndfpaa
