/-
  The reference's codes and symbols.
-/
import Derived.Test.YtpplboihlndfpaaDefRefBits
namespace Go.Proofs.Ytpplboihlndfpaa
open Go.RowKit Ix Dx
set_option linter.unusedSimpArgs false
set_option linter.unusedVariables false

theorem nb_one (u : Nat) (bs : List Nat) : nb u bs 1 = bs ++ [u % 2] := by unfold nb; rw [numBits, numBits]; simp

set_option maxRecDepth 100000 in
set_option maxHeartbeats 1000000 in
theorem refCode_any (v n : Nat) (hv : v < 4294967296) (hn : n ≤ 32) {w : World} {b : Nat} {sv : Value} {bs : List Nat} (h : RSy w b sv bs) (hB : bs.length + 200 ≤ 1099511627776) :
    Calls Try.prog 24 #[.pointer (some ⟨b, 0, none⟩), .int .i64 v, .int .i64 n] w fun e w' => e = .returned (.tuple #[]) ∧ RSyR w b sv (bs ++ codeBits v n) w' := by
  have HS := Lib.hid h
  clear h
  go_enter Try.func24, Try.ntmps24
  go_wp2_with fail
  go_loopg [2] n (fun m y wr => ∃ (r i : Nat) (sv' : Value), m = r ∧ Hid (r + i = n) ∧ r ≤ 32 ∧ y = .int .i64 r ∧ RSy wr b sv' (bs ++ codeTo v n i) ∧ Gr w b sv wr sv')
  case atStart => exact ⟨n, 0, sv, rfl, Lib.hid (by omega), hn, rfl, by rw [codeTo, List.append_nil]; exact HS.out, Gr.refl _ _ _⟩
  case round =>
    obtain ⟨r, i, sv1, hm, hri, hr32, rfl, hs, hg⟩ := hrel
    have HS1 := Lib.hid hs
    have HG1 := Lib.hid hg
    clear hs hg
    by_cases h0 : 0 < r
    · obtain ⟨k, hk⟩ : ∃ k, k = r - 1 := ⟨_, rfl⟩
      have i1 : (0 : Int) < (r : Int) := by omega
      have s0 : (r : Int) - 1 = (k : Int) := by omega
      have hk0 : ¬ (k : Int) < 0 := by omega
      have hk32 : k ≤ 32 := by omega
      obtain ⟨x, hx⟩ : ∃ x, x = v / 2 ^ k := ⟨_, rfl⟩
      have hxv : x ≤ v := by rw [hx]; exact Nat.div_le_self _ _
      have s1 : (v : Int) / 2 ^ k = (x : Int) := by rw [hx]; simp
      have hkm : min k 64 = k := by omega
      have hand := and_one' (x := x) (by omega)
      obtain ⟨u, hu⟩ : ∃ u, u = x % 2 := ⟨_, rfl⟩
      have hu2 : u < 2 := by omega
      have BP := Lib.hid (show Calls Try.prog 21 #[.pointer (some ⟨b, 0, none⟩), .int .i64 u, .int .i64 1] wr _ from refPut_any u 1 (by omega) (by omega) HS1.out (by rw [List.length_append, codeTo_len]; have := hri.out; omega))
      have HN := Lib.hid (show nb u (bs ++ codeTo v n i) 1 = bs ++ codeTo v n (i + 1) by
        have := hri.out
        rw [nb_one, codeTo, List.append_assoc, show n - 1 - i = k by omega, ← hx, ← hu, show u % 2 = u by omega])
      rw [HN.out] at BP
      rw [← hu] at hand
      have HRI := Lib.hid (show k + (i + 1) = n by have := hri.out; omega)
      clear hx hu hk hri HN
      go_wp2_with fail
      (with_reducible refine BP.out.mono ?_)
      rintro e w2 ⟨rfl, sv2, hs2, hg2⟩
      have HS2 := Lib.hid hs2
      have HG2 := Lib.hid (HG1.out.trans hg2)
      clear hs2 hg2
      go_wp2_with fail
      go_roundg k
      case measure => omega
      case rel => exact ⟨k, i + 1, sv2, rfl, HRI, hk32, rfl, HS2.out, HG2.out⟩
    · obtain rfl : r = 0 := by omega
      have HE := Lib.hid (show codeTo v n i = codeBits v n by
        have := hri.out
        rw [show i = n by omega]; rfl)
      clear hri
      go_wp2_with fail
      refine bodyPost_end (results_none rfl _ _ _) rfl ?_
      exact ⟨rfl, sv1, by rw [← HE.out]; exact HS1.out, HG1.out⟩

set_option maxRecDepth 100000 in
set_option maxHeartbeats 1000000 in
theorem refSymbol_any (s : Nat) (hs : s < 288) {w : World} {b : Nat} {sv : Value} {bs : List Nat} (h : RSy w b sv bs) (hB : bs.length + 200 ≤ 1099511627776) :
    Calls Try.prog 22 #[.pointer (some ⟨b, 0, none⟩), .int .i64 s] w fun e w' => e = .returned (.tuple #[]) ∧ RSyR w b sv (bs ++ symBits s) w' := by
  have HS := Lib.hid h
  clear h
  obtain ⟨n, hn⟩ : ∃ n, n = symN s := ⟨_, rfl⟩
  obtain ⟨c, hc⟩ : ∃ c, c = symC s := ⟨_, rfl⟩
  have hn9 := symN_le s
  have hc9 := symC_le s hs
  have HE := Lib.hid (show symBits s = codeBits c n by rw [hn, hc]; rfl)
  have CP := Lib.hid (refCode_any c n (by omega) (by omega) HS.out hB)
  rw [HE.out]
  rcases (show s < 144 ∨ (¬ s < 144 ∧ s < 256) ∨ (¬ s < 144 ∧ ¬ s < 256 ∧ s < 280) ∨ (¬ s < 144 ∧ ¬ s < 256 ∧ ¬ s < 280) by omega) with c1 | ⟨c1, c2⟩ | ⟨c1, c2, c3⟩ | ⟨c1, c2, c3⟩
  · have hn8 : n = 8 := by rw [hn]; unfold symN; rw [if_pos c1]
    have hcc : c = 48 + s := by rw [hc]; unfold symC; rw [if_pos c1]
    subst hn8
    have CP2 := Lib.hid (show Calls Try.prog 24 #[.pointer (some ⟨b, 0, none⟩), .int .i64 c, .int .i64 8] w _ from CP.out)
    have i1 : (s : Int) < 144 := by omega
    have s1 : (48 : Int) + (s : Int) = (c : Int) := by omega
    have s2 : IntKind.i64.wrap (c : Int) = (c : Int) := IntWalk.i64_in _ (by omega)
    clear hn hc hcc hn9 c1
    go_enter Try.func22, Try.ntmps22
    go_wp2_with fail
    (with_reducible refine CP2.out.mono ?_)
    rintro e w2 ⟨rfl, sv2, hs2, hg2⟩
    have HS2 := Lib.hid hs2
    have HG2 := Lib.hid hg2
    clear hs2 hg2
    go_wp2_with fail
    refine bodyPost_end (results_none rfl _ _ _) rfl ?_
    exact ⟨rfl, sv2, HS2.out, HG2.out⟩
  · have hn8 : n = 9 := by rw [hn]; unfold symN; rw [if_neg c1, if_pos c2]
    have hcc : c = 256 + s := by rw [hc]; unfold symC; rw [if_neg c1, if_pos c2]
    subst hn8
    have CP2 := Lib.hid (show Calls Try.prog 24 #[.pointer (some ⟨b, 0, none⟩), .int .i64 c, .int .i64 9] w _ from CP.out)
    have i1 : ¬ (s : Int) < 144 := by omega
    have i2 : (s : Int) < 256 := by omega
    have s1 : (256 : Int) + (s : Int) = (c : Int) := by omega
    have s2 : IntKind.i64.wrap (c : Int) = (c : Int) := IntWalk.i64_in _ (by omega)
    clear hn hc hcc hn9 c1 c2
    go_enter Try.func22, Try.ntmps22
    go_wp2_with fail
    (with_reducible refine CP2.out.mono ?_)
    rintro e w2 ⟨rfl, sv2, hs2, hg2⟩
    have HS2 := Lib.hid hs2
    have HG2 := Lib.hid hg2
    clear hs2 hg2
    go_wp2_with fail
    refine bodyPost_end (results_none rfl _ _ _) rfl ?_
    exact ⟨rfl, sv2, HS2.out, HG2.out⟩
  · have hn8 : n = 7 := by rw [hn]; unfold symN; rw [if_neg c1, if_neg c2, if_pos c3]
    have hcc : c = s - 256 := by rw [hc]; unfold symC; rw [if_neg c1, if_neg c2, if_pos c3]
    subst hn8
    have CP2 := Lib.hid (show Calls Try.prog 24 #[.pointer (some ⟨b, 0, none⟩), .int .i64 c, .int .i64 7] w _ from CP.out)
    have i1 : ¬ (s : Int) < 144 := by omega
    have i2 : ¬ (s : Int) < 256 := by omega
    have i3 : (s : Int) < 280 := by omega
    have s1 : (s : Int) - 256 = (c : Int) := by omega
    have s2 : IntKind.i64.wrap (c : Int) = (c : Int) := IntWalk.i64_in _ (by omega)
    clear hn hc hcc hn9 c1 c2 c3
    go_enter Try.func22, Try.ntmps22
    go_wp2_with fail
    (with_reducible refine CP2.out.mono ?_)
    rintro e w2 ⟨rfl, sv2, hs2, hg2⟩
    have HS2 := Lib.hid hs2
    have HG2 := Lib.hid hg2
    clear hs2 hg2
    go_wp2_with fail
    refine bodyPost_end (results_none rfl _ _ _) rfl ?_
    exact ⟨rfl, sv2, HS2.out, HG2.out⟩
  · have hn8 : n = 8 := by rw [hn]; unfold symN; rw [if_neg c1, if_neg c2, if_neg c3]
    have hcc : c = s - 88 := by rw [hc]; unfold symC; rw [if_neg c1, if_neg c2, if_neg c3]
    subst hn8
    have CP2 := Lib.hid (show Calls Try.prog 24 #[.pointer (some ⟨b, 0, none⟩), .int .i64 c, .int .i64 8] w _ from CP.out)
    have i1 : ¬ (s : Int) < 144 := by omega
    have i2 : ¬ (s : Int) < 256 := by omega
    have i3 : ¬ (s : Int) < 280 := by omega
    have s1 : (s : Int) - 88 = (c : Int) := by omega
    have s2 : IntKind.i64.wrap (c : Int) = (c : Int) := IntWalk.i64_in _ (by omega)
    clear hn hc hcc hn9 c1 c2 c3
    go_enter Try.func22, Try.ntmps22
    go_wp2_with fail
    (with_reducible refine CP2.out.mono ?_)
    rintro e w2 ⟨rfl, sv2, hs2, hg2⟩
    have HS2 := Lib.hid hs2
    have HG2 := Lib.hid hg2
    clear hs2 hg2
    go_wp2_with fail
    refine bodyPost_end (results_none rfl _ _ _) rfl ?_
    exact ⟨rfl, sv2, HS2.out, HG2.out⟩

end Go.Proofs.Ytpplboihlndfpaa
