/-
  Tokens as one block.
-/
import Derived.Test.YtpplboihlndfpaaDefSyms
import Derived.Test.YtpplboihlndfpaaInfFour
namespace Go.Proofs.Ytpplboihlndfpaa
open Go.RowKit Ix Dx
set_option linter.unusedSimpArgs false
set_option linter.unusedVariables false

theorem fix_syms : fixS = (List.range 288).map symN := by kernel_rfl
theorem fix_codes : codesV (intsOf fixS) = .ok ((List.range 288).map symC) := by kernel_rfl

/-- A token that may be pressed. -/
def TokOK (t : Tok) : Prop := t.len = 0 ∨ ∃ n d : Nat, t.len = (n : Int) ∧ t.dist = (d : Int) ∧ 3 ≤ n ∧ n ≤ 258 ∧ 1 ≤ d ∧ d ≤ 32768
theorem toks_ok (b : List UInt8) : ∀ f i, ∀ t ∈ toks b f i, TokOK t
  | 0, i, t, h => by cases h
  | f + 1, i, t, h => by
    rw [toks] at h
    split at h
    · split at h
      · rcases List.mem_cons.1 h with rfl | h
        · exact .inl rfl
        · exact toks_ok b f _ t h
      · rename_i c e
        rcases List.mem_cons.1 h with rfl | h
        · obtain ⟨a1, a2, a3, a4, a5, a6, a7⟩ := (long_best b i).some e
          have hM := M_le b i (i - (long b i).2)
          have ht := top_le b i
          exact .inr ⟨(long b i).1, (long b i).2, rfl, rfl, a1, by omega, by omega, a5⟩
        · exact toks_ok b f _ t h
    · cases h
theorem lenBits_le (n : Nat) (h2 : n ≤ 258) : (lenBits n).length ≤ 14 := by
  unfold lenBits
  split
  · unfold symBits; rw [codeBits_len]; have := symN_le 285; omega
  · rw [List.length_append, numBits_len]
    unfold symBits
    rw [codeBits_len]
    have h1 := symN_le (257 + spnV (n - 3) 4)
    have h3 := wid_len (n - 3) (by omega)
    omega
theorem tokBits_le {t : Tok} (h : TokOK t) : (tokBits t).length ≤ 40 := by
  unfold tokBits
  split
  · unfold symBits; rw [codeBits_len]; have := symN_le t.lit.toNat; omega
  · rcases h with h | ⟨n, d, hn, hd, h1, h2, h3, h4⟩
    · rename_i c; exact absurd h c
    · rw [hn, hd, Int.toNat_natCast, Int.toNat_natCast, List.length_append]
      have a := lenBits_le n h2
      have b := wid_dist (d - 1) (by omega)
      unfold distBits
      rw [List.length_append, codeBits_len, numBits_len]
      omega
theorem toksBits_le : ∀ l : List Tok, (∀ t ∈ l, TokOK t) → (toksBits l).length ≤ 40 * l.length
  | [], _ => by simp [toksBits]
  | t :: r, h => by
    have a := tokBits_le (h t (by simp))
    have b := toksBits_le r (fun x hx => h x (by simp [hx]))
    rw [toksBits, List.length_append, List.length_cons]; omega

set_option maxRecDepth 100000 in
set_option maxHeartbeats 1000000 in
theorem length_put (n : Nat) (h1 : 3 ≤ n) (h2 : n ≤ 258) {w : World} {b : Nat} {sv lv cv : Value} {bs : List Nat} (h : Sy w b sv bs lv cv) (ht : Tb w b lv cv) (hB : bs.length + 200 ≤ 1099511627776) :
    Calls Try.prog 44 #[.pointer (some ⟨b, 0, none⟩), .int .i64 n] w fun e w' => e = .returned (.tuple #[]) ∧ SyR w b sv (bs ++ lenBits n) lv cv w' := by
  have HS := Lib.hid h
  have HT := Lib.hid ht
  clear h ht
  by_cases c : n = 258
  · subst c
    have SP := Lib.hid (show Calls Try.prog 37 #[.pointer (some ⟨b, 0, none⟩), .int .i64 285] w fun e w' => e = .returned (.tuple #[]) ∧ SyR w b sv (bs ++ lenBits 258) lv cv w' from symbol_put 285 (by decide) HS.out HT.out (by omega))
    go_enter Try.func44, Try.ntmps44
    go_wp2_with fail
    (with_reducible refine SP.out.mono ?_)
    rintro e w2 ⟨rfl, hr⟩
    have HR := Lib.hid hr
    clear hr
    go_wp2_with fail
    refine bodyPost_ret (results_none rfl _ _ _) rfl ?_
    exact ⟨rfl, HR.out⟩
  · have e1 : ((n : Int) == 258) = false := by rw [beq_eq_false_iff_ne]; omega
    obtain ⟨m, hm⟩ : ∃ m, m = n - 3 := ⟨_, rfl⟩
    have hs := spn_len m (by omega)
    have hw := wid_len m (by omega)
    have SO := Lib.hid (fun w' => show Calls Try.prog 49 #[.int .i64 m, .int .i64 4] w' _ from spanOf_any m 4 (by omega) (.inr rfl) w')
    have HE := Lib.hid (show (bs ++ symBits (257 + spnV m 4)) ++ numBits m (widV m 4) = bs ++ lenBits n by
      unfold lenBits; rw [if_neg c, ← hm, List.append_assoc])
    obtain ⟨s, hss⟩ : ∃ s, s = spnV m 4 := ⟨_, rfl⟩
    obtain ⟨d, hdd⟩ : ∃ d, d = widV m 4 := ⟨_, rfl⟩
    rw [← hss, ← hdd] at HE SO
    rw [← hss] at hs
    rw [← hdd] at hw
    obtain ⟨q, hq⟩ : ∃ q, q = 257 + s := ⟨_, rfl⟩
    rw [← hq] at HE
    have SP := Lib.hid (symbol_put q (by omega) HS.out HT.out (by omega))
    have s1 : (n : Int) - 3 = (m : Int) := by omega
    have s2 : (257 : Int) + (s : Int) = (q : Int) := by omega
    have hlen : (bs ++ symBits q).length + 100 ≤ 1099511627776 := by
      rw [List.length_append]; unfold symBits; rw [codeBits_len]; have := symN_le q; omega
    have HLN := Lib.hid hlen
    have hm2 : m ≤ 255 := by omega
    clear hm hss hdd c hlen hq
    go_enter Try.func44, Try.ntmps44
    go_wp2_with fail
    (with_reducible refine (SO.out _).mono ?_)
    rintro e w2 ⟨rfl, rfl⟩
    go_wp2_with fail
    (with_reducible refine SP.out.mono ?_)
    rintro e w2 ⟨rfl, sv2, hs2, hg2⟩
    have HS2 := Lib.hid hs2
    have HG2 := Lib.hid hg2
    clear hs2 hg2
    go_wp2_with fail
    (with_reducible refine (number_put m d (by omega) (by omega) HS2.out HLN.out).mono ?_)
    rintro e w3 ⟨rfl, sv3, hs3, hg3⟩
    rw [HE.out] at hs3
    have HS3 := Lib.hid hs3
    have HG3 := Lib.hid (HG2.out.trans hg3)
    clear hs3 hg3
    go_wp2_with fail
    refine bodyPost_end (results_none rfl _ _ _) rfl ?_
    exact ⟨rfl, sv3, HS3.out, HG3.out⟩

set_option maxRecDepth 100000 in
set_option maxHeartbeats 1000000 in
theorem distance_put (n : Nat) (h1 : 1 ≤ n) (h2 : n ≤ 32768) {w : World} {b : Nat} {sv lv cv : Value} {bs : List Nat} (h : Sy w b sv bs lv cv) (hB : bs.length + 200 ≤ 1099511627776) :
    Calls Try.prog 45 #[.pointer (some ⟨b, 0, none⟩), .int .i64 n] w fun e w' => e = .returned (.tuple #[]) ∧ SyR w b sv (bs ++ distBits n) lv cv w' := by
  have HS := Lib.hid h
  clear h
  obtain ⟨m, hm⟩ : ∃ m, m = n - 1 := ⟨_, rfl⟩
  have hs := spn_dist m (by omega)
  have hw := wid_dist m (by omega)
  have SO := Lib.hid (fun w' => show Calls Try.prog 49 #[.int .i64 m, .int .i64 2] w' _ from spanOf_any m 2 (by omega) (.inl rfl) w')
  have HE := Lib.hid (show (bs ++ codeBits (spnV m 2) 5) ++ numBits m (widV m 2) = bs ++ distBits n by
    unfold distBits; rw [← hm, List.append_assoc])
  obtain ⟨s, hss⟩ : ∃ s, s = spnV m 2 := ⟨_, rfl⟩
  obtain ⟨d, hdd⟩ : ∃ d, d = widV m 2 := ⟨_, rfl⟩
  rw [← hss, ← hdd] at HE SO
  rw [← hss] at hs
  rw [← hdd] at hw
  have CP := Lib.hid (show Calls Try.prog 46 #[.pointer (some ⟨b, 0, none⟩), .int .i64 s, .int .i64 5] w _ from code_put s 5 (by omega) (by decide) HS.out (by omega))
  have s1 : (n : Int) - 1 = (m : Int) := by omega
  have HLN := Lib.hid (show (bs ++ codeBits s 5).length + 100 ≤ 1099511627776 by rw [List.length_append, codeBits_len]; omega)
  have hm2 : m ≤ 32767 := by omega
  clear hm hss hdd
  go_enter Try.func45, Try.ntmps45
  go_wp2_with fail
  (with_reducible refine (SO.out _).mono ?_)
  rintro e w2 ⟨rfl, rfl⟩
  go_wp2_with fail
  (with_reducible refine CP.out.mono ?_)
  rintro e w2 ⟨rfl, sv2, hs2, hg2⟩
  have HS2 := Lib.hid hs2
  have HG2 := Lib.hid hg2
  clear hs2 hg2
  go_wp2_with fail
  (with_reducible refine (number_put m d (by omega) (by omega) HS2.out HLN.out).mono ?_)
  rintro e w3 ⟨rfl, sv3, hs3, hg3⟩
  rw [HE.out] at hs3
  have HS3 := Lib.hid hs3
  have HG3 := Lib.hid (HG2.out.trans hg3)
  clear hs3 hg3
  go_wp2_with fail
  refine bodyPost_end (results_none rfl _ _ _) rfl ?_
  exact ⟨rfl, sv3, HS3.out, HG3.out⟩

set_option maxRecDepth 100000 in
set_option maxHeartbeats 1000000 in
theorem token_put (t : Tok) (hk : TokOK t) {w : World} {b : Nat} {sv lv cv : Value} {bs : List Nat} (h : Sy w b sv bs lv cv) (ht : Tb w b lv cv) (hB : bs.length + 300 ≤ 1099511627776) :
    Calls Try.prog 36 #[.pointer (some ⟨b, 0, none⟩), .agg #[.int .u8 (t.lit.toNat : Int), .int .i64 t.len, .int .i64 t.dist]] w fun e w' => e = .returned (.tuple #[]) ∧ SyR w b sv (bs ++ tokBits t) lv cv w' := by
  have hbl := h.blk.lt
  have HOW := Lib.hid (fun k e => (h.own.lt k e).2)
  have K0 := Lib.hid (show Kept w (w.alloc (.cells #[.int .u8 (t.lit.toNat : Int), .int .i64 t.len, .int .i64 t.dist] 38)) from (Kept.refl w).allocO _)
  have HS := Lib.hid (h.kept K0.out)
  have HT := Lib.hid (ht.below (Below.mono K0.out (Nat.le_of_lt hbl)))
  have HG := Lib.hid (Gr.ofKept (b := b) (v := sv) K0.out)
  have HBK := Lib.hid (Blk.fresh w #[.int .u8 (t.lit.toNat : Int), .int .i64 t.len, .int .i64 t.dist] 38)
  rcases hk with h0 | ⟨n, d, hn, hd, h1, h2, h3, h4⟩
  · have HE := Lib.hid (show bs ++ symBits t.lit.toNat = bs ++ tokBits t by unfold tokBits; rw [if_pos h0])
    have hlt := t.lit.toNat_lt
    have SP := Lib.hid (symbol_put t.lit.toNat (by omega) HS.out HT.out (by omega))
    rw [HE.out] at SP
    have e0 : (t.len == 0) = true := by rw [beq_iff_eq]; exact h0
    have s1 : IntKind.i64.wrap (t.lit.toNat : Int) = (t.lit.toNat : Int) := IntWalk.i64_in _ (by omega)
    clear h ht h0
    go_enter Try.func36, Try.ntmps36
    go_wp2_with fail
    (with_reducible refine SP.out.mono ?_)
    rintro e w2 ⟨rfl, sv2, hs2, hg2⟩
    have HS2 := Lib.hid hs2
    have HG2 := Lib.hid (HG.out.trans hg2)
    clear hs2 hg2
    go_wp2_with fail
    refine bodyPost_ret (results_none rfl _ _ _) rfl ?_
    exact ⟨rfl, sv2, HS2.out, HG2.out⟩
  · have HE := Lib.hid (show (bs ++ lenBits n) ++ distBits d = bs ++ tokBits t by
      unfold tokBits; rw [if_neg (by rw [hn]; omega), hn, hd, Int.toNat_natCast, Int.toNat_natCast, List.append_assoc])
    have LP := Lib.hid (length_put n h1 h2 HS.out HT.out (by omega))
    have HLN := Lib.hid (show (bs ++ lenBits n).length + 200 ≤ 1099511627776 by rw [List.length_append]; have := lenBits_le n h2; omega)
    rw [hn, hd] at HG HBK HS ⊢
    have e0 : ((n : Int) == 0) = false := by rw [beq_eq_false_iff_ne]; omega
    rw [hn, hd] at LP HT K0
    have c2 := HBK.out.cells3.2.2
    have hfl := HBK.out.lt
    have hbt : w.heap.size ≠ b := by omega
    clear h ht hn hd
    go_enter Try.func36, Try.ntmps36
    go_wp2_with fail
    (with_reducible refine LP.out.mono ?_)
    rintro e w2 ⟨rfl, sv2, hs2, hg2⟩
    have HS2 := Lib.hid hs2
    have c2' : w2.cell? ⟨w.heap.size, 2, none⟩ = some (.int .i64 d) := by
      rw [← c2]
      exact World.cell?_of_block (hg2.block w.heap.size hfl hbt (fun e => by have := HOW.out _ e; omega))
    have HG2 := Lib.hid (HG.out.trans hg2)
    clear hs2 hg2
    go_wp2_with fail
    (with_reducible refine (distance_put d h3 h4 HS2.out HLN.out).mono ?_)
    rintro e w3 ⟨rfl, sv3, hs3, hg3⟩
    rw [HE.out] at hs3
    have HS3 := Lib.hid hs3
    have HG3 := Lib.hid (HG2.out.trans hg3)
    clear hs3 hg3
    go_wp2_with fail
    refine bodyPost_end (results_none rfl _ _ _) rfl ?_
    exact ⟨rfl, sv3, HS3.out, HG3.out⟩

end Go.Proofs.Ytpplboihlndfpaa
