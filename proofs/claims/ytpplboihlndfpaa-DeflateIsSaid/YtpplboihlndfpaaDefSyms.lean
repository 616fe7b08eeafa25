/-
  Numbers, codes, symbols, lengths, distances put into bytes.
-/
import Derived.Test.YtpplboihlndfpaaDefBit
import Derived.Test.YtpplboihlndfpaaShelf
import Derived.Test.YtpplboihlndfpaaDefRow
namespace Go.Proofs.Ytpplboihlndfpaa
open Go.RowKit Ix Dx
set_option linter.unusedSimpArgs false
set_option linter.unusedVariables false

theorem run_greatest' {P : Program} {w : World} (ts : Array TypeId) (t : TypeId) (k k' : IntKind) (x y : Int) : (Builtin.max_ ts t #[.int k x, .int k' y]).run P w = .ok (.int k (max x y)) w := by
  rw [run_max_int2]; congr 2; split <;> omega
attribute [local go_sem ↓] run_greatest'

theorem SyR.then {w w1 w2 : World} {b : Nat} {sv sv1 lv cv : Value} {bs1 bs2 : List Nat} (g : Gr w b sv w1 sv1) (h : SyR w1 b sv1 bs2 lv cv w2) : SyR w b sv bs2 lv cv w2 := by
  obtain ⟨sv', h1, h2⟩ := h
  exact ⟨sv', h1, g.trans h2⟩

set_option maxRecDepth 100000 in
set_option maxHeartbeats 1000000 in
theorem number_put (v n : Nat) (hv : v < 4294967296) (hn : n ≤ 32) {w : World} {b : Nat} {sv lv cv : Value} {bs : List Nat} (h : Sy w b sv bs lv cv) (hB : bs.length + 100 ≤ 1099511627776) :
    Calls Try.prog 35 #[.pointer (some ⟨b, 0, none⟩), .int .i64 v, .int .i64 n] w fun e w' => e = .returned (.tuple #[]) ∧ SyR w b sv (bs ++ numBits v n) lv cv w' := by
  have HS := Lib.hid h
  clear h
  go_enter Try.func35, Try.ntmps35
  go_wp2_with fail
  go_loopg [8] n (fun m y wr => ∃ (j : Nat) (sv' : Value), m = n - j ∧ j ≤ n ∧ y = .int .i64 j ∧ Sy wr b sv' (bs ++ numBits v j) lv cv ∧ Gr w b sv wr sv')
  case atStart => exact ⟨0, sv, rfl, Nat.zero_le _, rfl, by rw [numBits, List.append_nil]; exact HS.out, Gr.refl _ _ _⟩
  case round =>
    obtain ⟨j, sv', hm, hj, rfl, hs, hg⟩ := hrel
    have HS1 := Lib.hid hs
    have HG1 := Lib.hid hg
    clear hs hg
    by_cases hlt : j < n
    · have hj0 : ¬ (j : Int) < 0 := by omega
      have hj1 : (j : Int) < (n : Int) := by omega
      obtain ⟨x, hx⟩ : ∃ x, x = v / 2 ^ j := ⟨_, rfl⟩
      have hxv : x ≤ v := by rw [hx]; exact Nat.div_le_self _ _
      have s1 : (v : Int) / 2 ^ j = (x : Int) := by rw [hx]; simp
      have hjm : min j 64 = j := by omega
      have BP := Lib.hid (bit_put x (by omega) HS1.out (by rw [List.length_append, numBits_len]; omega))
      have HN := Lib.hid (show (bs ++ numBits v j) ++ [x % 2] = bs ++ numBits v (j + 1) by rw [numBits, List.append_assoc, hx])
      rw [HN.out] at BP
      clear hx
      go_wp2_with fail
      (with_reducible refine BP.out.mono ?_)
      rintro e w2 ⟨rfl, sv2, hs2, hg2⟩
      have HS2 := Lib.hid hs2
      have HG2 := Lib.hid (HG1.out.trans hg2)
      clear hs2 hg2
      go_wp2_with fail
      go_roundg (n - (j + 1))
      case measure => omega
      case rel => exact ⟨j + 1, sv2, rfl, by omega, by go_num, HS2.out, HG2.out⟩
    · obtain rfl : j = n := by omega
      go_wp2_with fail
      refine bodyPost_end (results_none rfl _ _ _) rfl ?_
      exact ⟨rfl, sv', HS1.out, HG1.out⟩

set_option maxRecDepth 100000 in
set_option maxHeartbeats 1000000 in
theorem code_put (v n : Nat) (hv : v < 4294967296) (hn : n ≤ 32) {w : World} {b : Nat} {sv lv cv : Value} {bs : List Nat} (h : Sy w b sv bs lv cv) (hB : bs.length + 100 ≤ 1099511627776) :
    Calls Try.prog 46 #[.pointer (some ⟨b, 0, none⟩), .int .i64 v, .int .i64 n] w fun e w' => e = .returned (.tuple #[]) ∧ SyR w b sv (bs ++ codeBits v n) lv cv w' := by
  have HS := Lib.hid h
  clear h
  go_enter Try.func46, Try.ntmps46
  go_wp2_with fail
  go_loopg [8] n (fun m y wr => ∃ (j : Nat) (sv' : Value), m = n - j ∧ j ≤ n ∧ y = .int .i64 j ∧ Sy wr b sv' (bs ++ codeTo v n j) lv cv ∧ Gr w b sv wr sv')
  case atStart => exact ⟨0, sv, rfl, Nat.zero_le _, rfl, by rw [codeTo, List.append_nil]; exact HS.out, Gr.refl _ _ _⟩
  case round =>
    obtain ⟨j, sv', hm, hj, rfl, hs, hg⟩ := hrel
    have HS1 := Lib.hid hs
    have HG1 := Lib.hid hg
    clear hs hg
    by_cases hlt : j < n
    · obtain ⟨k, hk⟩ : ∃ k, k = n - 1 - j := ⟨_, rfl⟩
      have hk0 : ¬ (k : Int) < 0 := by omega
      have hj1 : (j : Int) < (n : Int) := by omega
      have s0 : (n : Int) - 1 - (j : Int) = (k : Int) := by omega
      obtain ⟨x, hx⟩ : ∃ x, x = v / 2 ^ k := ⟨_, rfl⟩
      have hxv : x ≤ v := by rw [hx]; exact Nat.div_le_self _ _
      have s1 : (v : Int) / 2 ^ k = (x : Int) := by rw [hx]; simp
      have hkm : min k 64 = k := by omega
      have BP := Lib.hid (bit_put x (by omega) HS1.out (by rw [List.length_append, codeTo_len]; omega))
      have HN := Lib.hid (show (bs ++ codeTo v n j) ++ [x % 2] = bs ++ codeTo v n (j + 1) by rw [codeTo, List.append_assoc, hx, hk])
      rw [HN.out] at BP
      have hk32 : k ≤ 32 := by omega
      clear hx hk
      go_wp2_with fail
      (with_reducible refine BP.out.mono ?_)
      rintro e w2 ⟨rfl, sv2, hs2, hg2⟩
      have HS2 := Lib.hid hs2
      have HG2 := Lib.hid (HG1.out.trans hg2)
      clear hs2 hg2
      go_wp2_with fail
      go_roundg (n - (j + 1))
      case measure => omega
      case rel => exact ⟨j + 1, sv2, rfl, by omega, by go_num, HS2.out, HG2.out⟩
    · obtain rfl : j = n := by omega
      go_wp2_with fail
      refine bodyPost_end (results_none rfl _ _ _) rfl ?_
      exact ⟨rfl, sv', HS1.out, HG1.out⟩

/-- The lengths and the codes of the kind 1 lie ahead of block b. -/
def Tb (w : World) (b : Nat) (lv cv : Value) : Prop := ∃ kl ol cl kc oc cc, lv = .slice (some ⟨kl, ol, none⟩) 288 cl ∧ cv = .slice (some ⟨kc, oc, none⟩) 288 cc ∧ kl < b ∧ kc < b ∧
  ∀ s, s < 288 → w.cell? ⟨kl, ol + s, none⟩ = some (.int .i64 (symN s : Nat)) ∧ w.cell? ⟨kc, oc + s, none⟩ = some (.int .i64 (symC s : Nat))
theorem Tb.below {w w' : World} {b : Nat} {lv cv : Value} (h : Tb w b lv cv) (k : Below b w w') : Tb w' b lv cv := by
  obtain ⟨kl, ol, cl, kc, oc, cc, h1, h2, h3, h4, h5⟩ := h
  refine ⟨kl, ol, cl, kc, oc, cc, h1, h2, h3, h4, fun s hs => ?_⟩
  obtain ⟨a1, a2⟩ := h5 s hs
  exact ⟨by rw [← a1]; exact k.cell (p := ⟨kl, ol + s, none⟩) h3, by rw [← a2]; exact k.cell (p := ⟨kc, oc + s, none⟩) h4⟩
theorem Sy.gr {w w' : World} {b : Nat} {sv sv' lv cv : Value} {bs : List Nat} (h : Sy w b sv bs lv cv) (g : Gr w b sv w' sv') : Below b w w' :=
  g.below (fun k e => Nat.le_of_lt (h.low k e)) (Nat.le_of_lt h.blk.lt)
theorem symN_le (s : Nat) : symN s ≤ 9 := by unfold symN; split <;> (try split) <;> (try split) <;> omega
theorem symC_le (s : Nat) (h : s < 288) : symC s < 512 := by unfold symC; split <;> (try split) <;> (try split) <;> omega

set_option maxRecDepth 100000 in
set_option maxHeartbeats 1000000 in
theorem symbol_put (s : Nat) (hs : s < 288) {w : World} {b : Nat} {sv lv cv : Value} {bs : List Nat} (h : Sy w b sv bs lv cv) (ht : Tb w b lv cv) (hB : bs.length + 100 ≤ 1099511627776) :
    Calls Try.prog 37 #[.pointer (some ⟨b, 0, none⟩), .int .i64 s] w fun e w' => e = .returned (.tuple #[]) ∧ SyR w b sv (bs ++ symBits s) lv cv w' := by
  obtain ⟨kl, ol, cl, kc, oc, cc, rfl, rfl, hkl, hkc, hcell⟩ := ht
  obtain ⟨b1, b2⟩ := hcell s hs
  obtain ⟨c0, c1, c2, c3⟩ := h.blk.cells4
  have hn := symN_le s
  have hc := symC_le s hs
  have CP := Lib.hid (fun w' (k : Kept w w') => code_put (symC s) (symN s) (by omega) (by omega) (h.kept k) hB)
  have HD := Lib.hid (fun (w' : World) (k : Kept w w') => Gr.ofKept (b := b) (v := sv) k)
  have hs1 : (s : Int) < 288 := by omega
  obtain ⟨n, hnn⟩ : ∃ n, n = symN s := ⟨_, rfl⟩
  obtain ⟨c, hcc⟩ : ∃ c, c = symC s := ⟨_, rfl⟩
  have HE := Lib.hid (show symBits s = codeBits c n by rw [hnn, hcc]; rfl)
  rw [← hnn, ← hcc] at CP
  rw [← hnn] at b1
  rw [← hcc] at b2
  clear h hcell hnn hcc
  go_enter Try.func37, Try.ntmps37
  go_still_tail 17, (by kernel_rfl)
  change wpList _ _ _ _ _ w.drew
  go_wp2_with fail
  (with_reducible refine (CP.out _ (Kept.refl w).drew).mono ?_)
  rintro e w2 ⟨rfl, sv2, hs2, hg2⟩
  have HS2 := Lib.hid hs2
  have HG2 := Lib.hid ((HD.out _ (Kept.refl w).drew).trans hg2)
  clear hs2 hg2
  go_wp2_with fail
  refine bodyPost_end (results_none rfl _ _ _) rfl ?_
  rw [HE.out]
  exact ⟨rfl, sv2, HS2.out, HG2.out⟩

theorem bitLen_log (x : Nat) (h : x < 2 ^ 64) : Lib.bitLen x = if x = 0 then 0 else Nat.log2 x + 1 := by
  induction x using Nat.strongRecOn with
  | ind x ih =>
    by_cases h0 : x = 0
    · subst h0; rfl
    · rw [if_neg h0, Lib.bitLen_half x h0 h, ih (x / 2) (by omega) (by omega)]
      rw [Nat.log2_def x]
      by_cases h2 : 2 ≤ x
      · rw [if_pos h2, if_neg (by omega)]; omega
      · rw [if_neg h2, if_pos (by omega)]

set_option maxRecDepth 100000 in
set_option maxHeartbeats 1000000 in
theorem spanOf_any (n e : Nat) (hn : n < 65536) (he : e = 2 ∨ e = 4) (w : World) :
    Calls Try.prog 49 #[.int .i64 n, .int .i64 e] w fun r w' => r = .returned (.tuple #[.int .i64 (spnV n e : Nat), .int .i64 (widV n e : Nat)]) ∧ w = w' := by
  obtain ⟨wd, q, r, h1, h2, h3, h4, h5, h6, h7⟩ := span_parts n e (by omega) (by omega) (by omega)
  obtain ⟨m, hm⟩ : ∃ m, m = n / e := ⟨_, rfl⟩
  have hmn : m ≤ n := by rw [hm]; exact Nat.div_le_self _ _
  have hbl := bitLen_log m (by omega)
  have hw : wd = Nat.log2 m := by rw [h1, hm]; rfl
  have hlt : wd ≤ 16 := by
    rw [hw]
    by_cases h0 : m = 0
    · rw [h0]; decide
    · have := (Nat.log2_lt h0 (k := 17)).2 (by omega); omega
  rw [← hw] at hbl
  obtain ⟨bl, hbb⟩ : ∃ bl, bl = Lib.bitLen m := ⟨_, rfl⟩
  have BL := Lib.hid (fun w' => Try.bits_Len (m : Int) w' (by omega) (by omega))
  rw [Int.toNat_natCast, ← hbb] at BL
  have hmx : max 0 ((bl : Int) - 1) = (wd : Int) := by
    rw [hbb, hbl]
    split
    · have : wd = 0 := by rw [hw]; rename_i h0; rw [h0]; decide
      omega
    · omega
  have hb64 : bl ≤ 64 := by rw [hbb, hbl]; split <;> omega
  have s1 : IntKind.u64.wrap (m : Int) = (m : Int) := by show (m : Int) % 18446744073709551616 = _; omega
  have s2 : ¬ (wd : Int) < 0 := by omega
  have s3 : (n : Int) / 2 ^ wd = (q : Int) := by rw [← h2]; simp
  have s4 : min wd 64 = wd := by omega
  have HR := Lib.hid h7
  have hq : q < 8 := by omega
  rw [← h1, h7]
  rcases he with rfl | rfl
  · have d1 : (n : Int) / 2 = (m : Int) := by omega
    have d2 : (n : Int).tdiv 2 = (m : Int) := by rw [Int.tdiv_eq_ediv_of_nonneg (by omega)]; exact d1
    clear hbl hw hbb hm h1 h2 h3 h4 h5 h6 h7
    go_enter Try.func49, Try.ntmps49
    go_wp2_with fail
    (with_reducible refine (BL.out _).mono ?_)
    rintro x w2 ⟨rfl, rfl⟩
    go_wp2_with fail
    go_ret2
    exact ⟨by simp, rfl⟩
  · have d1 : (n : Int) / 4 = (m : Int) := by omega
    have d2 : (n : Int).tdiv 4 = (m : Int) := by rw [Int.tdiv_eq_ediv_of_nonneg (by omega)]; exact d1
    clear hbl hw hbb hm h1 h2 h3 h4 h5 h6 h7
    go_enter Try.func49, Try.ntmps49
    go_wp2_with fail
    (with_reducible refine (BL.out _).mono ?_)
    rintro x w2 ⟨rfl, rfl⟩
    go_wp2_with fail
    go_ret2
    exact ⟨by simp, rfl⟩

end Go.Proofs.Ytpplboihlndfpaa
