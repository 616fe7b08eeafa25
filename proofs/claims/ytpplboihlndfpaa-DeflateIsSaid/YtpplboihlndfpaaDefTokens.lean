/-
  Bytes as tokens.
-/
import Derived.Test.YtpplboihlndfpaaDefRow
namespace Go.Proofs.Ytpplboihlndfpaa
open Go.RowKit Dx
set_option linter.unusedSimpArgs false
set_option linter.unusedVariables false

theorem Se.below {w w' : World} {sb : Nat} {p : Option Addr} {c : Nat} {b : List UInt8} {av : Value} (h : Se w sb p c b av) {B : Nat} (k : Below B w w') (hB : sb < B) : Se w' sb p c b av :=
  ⟨(k.block sb hB).trans h.blk, fun i hi => by
    obtain ⟨kb, o, hp, hk, hc⟩ := h.byt i hi
    exact ⟨kb, o, hp, hk, by rw [← hc]; exact World.cell?_of_block (k.block kb (by omega))⟩⟩
theorem Arr.below {w w' : World} {g n : Nat} {f : Nat → Int} {t : TypeId} (h : Arr w g n f t) {B : Nat} (k : Below B w w') (hB : g < B) : Arr w' g n f t := (k.block g hB).trans h

set_option maxRecDepth 100000 in
set_option maxHeartbeats 4000000 in
theorem Tokens_any (b : List UInt8) (p : Option Addr) (c : Nat) (w : World) (h : ByR w w.heap.size p b) (hc : b.length ≤ c) (hB : b.length ≤ 1099511627776) :
    Calls Try.prog 15 #[.slice p b.length c] w fun e w' => ∃ v, e = .returned v ∧ Toks w' w.heap.size v (tokens b) ∧ Kept w w' := by
  have HB := Lib.hid h
  have NA := Lib.hid (nextAhead_any b p c w h hc hB)
  clear h
  go_enter Try.func15, Try.ntmps15
  go_wp2_with fail
  (with_reducible refine NA.out.mono ?_)
  rintro e w1 ⟨ga, rfl, hga, ha, hk⟩
  have HA := Lib.hid ha
  have HK := Lib.hid hk
  clear ha hk
  go_wp2_with fail
  have hsz := Below.size HK.out
  have hgl := HA.out.lt
  have S0 := Lib.hid (show Se (w1.alloc (.cells #[.slice p b.length c, .slice (some ⟨ga, 0, none⟩) b.length b.length] 58)) w1.heap.size p c b (.slice (some ⟨ga, 0, none⟩) b.length b.length) from
    ⟨Blk.fresh w1 _ _, fun i hi => by
      obtain ⟨kb, o, hp, hkb, hcx⟩ := (HB.out.keep (Nat.le_refl _) (HK.out.allocO (.cells #[.slice p b.length c, .slice (some ⟨ga, 0, none⟩) b.length b.length] 58))) i hi
      exact ⟨kb, o, hp, by omega, hcx⟩⟩)
  have A0 := Lib.hid (HA.out.alloc (.cells #[.slice p b.length c, .slice (some ⟨ga, 0, none⟩) b.length b.length] 58))
  have K0 := Lib.hid (HK.out.allocO (.cells #[.slice p b.length c, .slice (some ⟨ga, 0, none⟩) b.length b.length] 58))
  have hW : (w1.alloc (.cells #[.slice p b.length c, .slice (some ⟨ga, 0, none⟩) b.length b.length] 58)).heap.size = w1.heap.size + 1 := by simp
  obtain ⟨W0, hW0⟩ : ∃ W0, W0 = w1.alloc (.cells #[.slice p b.length c, .slice (some ⟨ga, 0, none⟩) b.length b.length] 58) := ⟨_, rfl⟩
  rw [← hW0] at S0 A0 K0 hW ⊢
  obtain ⟨sb, hsb⟩ : ∃ sb, sb = w1.heap.size := ⟨_, rfl⟩
  rw [← hsb] at S0 hW hsz hgl ⊢
  clear hW0 hsb HA HK NA
  go_loopg [3, 5] b.length (fun m lv y wr => ∃ (i : Nat) (acc : List Tok) (f : Nat), m = b.length - i ∧ i ≤ b.length ∧ y = .int .i64 i ∧ acc.length ≤ i ∧ Hid (acc ++ toks b f i = tokens b ∧ b.length ≤ f + i) ∧ Toks wr (sb + 1) lv acc ∧ Below (sb + 1) W0 wr)
  case atStart => exact ⟨0, [], b.length, by omega, Nat.zero_le _, rfl, Nat.le_refl _, Lib.hid ⟨rfl, Nat.le_refl _⟩, Toks.nil _ _ (by omega), Below.refl _ _⟩
  case round =>
    obtain ⟨i, acc, f, hmi, hi, rfl, hal, HT, ht, hbl⟩ := hrel
    have HO := Lib.hid ht
    have HL := Lib.hid hbl
    have SR := Lib.hid (S0.out.below hbl (Nat.lt_succ_self _))
    have AR := Lib.hid (A0.out.below hbl (by omega))
    have hszr := Below.size hbl
    clear ht hbl
    by_cases hlt : i < b.length
    · have i1 : (i : Int) < (b.length : Int) := by omega
      have LG := Lib.hid (longest_any b i SR.out AR.out hlt hB)
      obtain ⟨kb, o, hp, hkb, hcx⟩ := SR.out.byt i hlt
      rw [at_getElem b i hlt] at hcx
      have HCX := Lib.hid hcx
      clear hcx
      subst hp
      go_wp2_with fail
      (with_reducible refine LG.out.mono ?_)
      rintro e w2 ⟨rfl, hk2⟩
      have cx := HCX.out
      rw [← hk2.cells.1 kb (o + i) (by omega)] at cx
      have L2 := Lib.hid (HL.out.trans (Below.mono hk2 (by omega)))
      have O2 := Lib.hid (HO.out.kept hk2)
      have hs2 := Below.size hk2
      clear hk2
      by_cases h0 : (long b i).1 = 0
      · obtain ⟨g, hg, hstep⟩ := toks_lit hlt HT.out.2 h0
        have HT2 := Lib.hid (show (acc ++ [⟨at' b i, 0, 0⟩]) ++ toks b g (i + 1) = tokens b by rw [List.append_assoc, List.singleton_append, ← hstep]; exact HT.out.1)
        have HG := Lib.hid hg
        rw [h0]
        have z0 : (((0 : Nat) : Int) == 0) = true := rfl
        obtain ⟨x, hx⟩ : ∃ x, x = at' b i := ⟨_, rfl⟩
        rw [← hx] at cx HT2
        clear h0 hg hstep hx
        go_wp2_with (at_builtin; refine wpList_app_tok rfl _ _ rfl O2.out rfl ⟨x, 0, 0⟩ _ rfl rfl (by omega) (by omega) ?_; intro g5 cap5 w5 ho5 hg5 hat5; have O5 := Lib.hid ho5; have L5 := Lib.hid (Below.grown (Below.alloc L2.out (by omega) _) hg5 (by simp; omega) (fun k hk => (O2.out.lt k hk).1)); clear ho5 hg5 hat5)
        go_roundg (b.length - (i + 1))
        case measure => omega
        case rel => exact ⟨i + 1, acc ++ [⟨x, 0, 0⟩], g, rfl, by omega, by go_num, by simp; omega, Lib.hid ⟨HT2.out, HG.out⟩, by simpa using O5.out, L5.out⟩
      · obtain ⟨g, hg, hstep⟩ := toks_match hlt HT.out.2 h0
        have hle := long_le b i
        have htp := top_le b i
        obtain ⟨n, hn⟩ : ∃ n, n = (long b i).1 := ⟨_, rfl⟩
        obtain ⟨d, hd⟩ : ∃ d, d = (long b i).2 := ⟨_, rfl⟩
        rw [← hn, ← hd] at hstep hle ⊢
        rw [← hn] at h0 hg
        have HT2 := Lib.hid (show (acc ++ [⟨0, (n : Int), (d : Int)⟩]) ++ toks b g (i + n) = tokens b by rw [List.append_assoc, List.singleton_append, ← hstep]; exact HT.out.1)
        have HG := Lib.hid hg
        have z0 : ((n : Int) == 0) = false := by rw [beq_eq_false_iff_ne]; omega
        have hn1 : 1 ≤ n := by omega
        have hn2 : i + n ≤ b.length := by omega
        clear h0 hg hstep hn hd
        go_wp2_with (at_builtin; refine wpList_app_tok rfl _ _ rfl O2.out rfl ⟨0, (n : Int), (d : Int)⟩ _ rfl rfl (by omega) (by omega) ?_; intro g5 cap5 w5 ho5 hg5 hat5; have O5 := Lib.hid ho5; have L5 := Lib.hid (Below.grown (Below.alloc L2.out (by omega) _) hg5 (by simp; omega) (fun k hk => (O2.out.lt k hk).1)); clear ho5 hg5 hat5)
        go_roundg (b.length - (i + n))
        case measure => omega
        case rel => exact ⟨i + n, acc ++ [⟨0, (n : Int), (d : Int)⟩], g, rfl, hn2, by go_num, by simp; omega, Lib.hid ⟨HT2.out, HG.out⟩, by simpa using O5.out, L5.out⟩
    · have HE := Lib.hid (show acc = tokens b by rw [← HT.out.1, toks_end b f i (by omega), List.append_nil])
      go_wp2_with fail
      go_ret
      refine ⟨_, rfl, ?_, K0.out.trans (Below.mono HL.out (by omega))⟩
      rw [← HE.out]
      exact ⟨HO.out.1, by
        rcases HO.out.2 with h1 | ⟨g, cap, cur, h1, h2, h3⟩
        · exact .inl h1
        · exact .inr ⟨g, cap, cur, h1, by omega, h3⟩⟩

end Go.Proofs.Ytpplboihlndfpaa
