/-
  Why an object may not be written: what package write's Sane, and all that it asks, answer of any object.
-/
import Derived.Test.YtkpagahnmbchjaaGreatDoorWrA
import Derived.Test.YtkpagahnmbchjaaGreatDoorLexM
import Derived.Test.YtkpagahnmbchjaaGreatDoorFixW
import Derived.Deep.LoopGhost
namespace Go.Proofs.YtkpagahnmbchjaaGreatDoor
open Go.RowKit Cx
set_option linter.unusedSimpArgs false
set_option linter.unusedVariables false

theorem sense_mk (k n f : Int) (s : ByteArray) (l : List Ob) (d : List Entr) : (Ob.mk k n f s l d).sense = if k = 0 ∨ k = 3 ∨ k = 4 ∨ k = 5 then true else if k = 1 then n == 0 || n == 1 else if k = 2 then n == 0 || (n == 1 && wholeF f) else if k = 7 then decide (0 ≤ n) && (decide (0 ≤ f) && wholeF f) else if k = 6 ∨ k = 8 then senseD [] d else false := rfl

theorem isBit_any (n : Int) (w : World) : Calls Tryz.prog 99 #[.int .i64 n] w fun e w' => e = .returned (.bool (n == 0 || n == 1)) ∧ Kept w w' := by
  cases h0 : (n == 0)
  · go_enter Tryz.func99, Tryz.ntmps99
    go_wp2_with fail
    go_ret
    exact ⟨by first | rfl | simp, Kept.refl w⟩
  · go_enter Tryz.func99, Tryz.ntmps99
    go_wp2_with fail
    go_ret
    exact ⟨by first | rfl | simp, Kept.refl w⟩

theorem isWholeW_any (f : Int) (w : World) : Calls Tryz.prog 76 #[.int .i64 f] w fun e w' => e = .returned (.bool (wholeF f)) ∧ Kept w w' := by
  unfold wholeF
  go_enter Tryz.func76, Tryz.ntmps76
  go_wp2_with fail
  go_ret
  exact ⟨by first | rfl | simp, Kept.refl w⟩

theorem hasEntriesW_any (o : Ob) (h : Hd) (w : World) : Calls Tryz.prog 101 #[objV o h] w fun e w' => e = .returned (.bool o.ents) ∧ Kept w w' := by
  unfold objV
  have HB := Lib.hid (show o.ents = (o.k == 6 || o.k == 8) from rfl)
  obtain ⟨b, hb⟩ : ∃ b, b = o.ents := ⟨_, rfl⟩
  rw [← hb] at HB ⊢
  clear hb
  obtain ⟨k, n, f, s, l, d⟩ := o
  simp only [Ob.k, Ob.n, Ob.f, Ob.s, Ob.l, Ob.d] at HB ⊢
  cases h6 : (k == 6)
  · go_enter Tryz.func101, Tryz.ntmps101
    go_wp2_with fail
    go_ret
    exact ⟨by rw [HB.out]; first | done | simp [h6], (Kept.refl w).alloc _ _⟩
  · go_enter Tryz.func101, Tryz.ntmps101
    go_wp2_with fail
    go_ret
    exact ⟨by rw [HB.out]; first | done | simp [h6], (Kept.refl w).alloc _ _⟩

set_option maxRecDepth 100000 in
set_option maxHeartbeats 4000000 in
theorem entriesSense_any (P : Nat → Prop) (d : List Entr) (q : Option Addr) (c : Nat) (w : World) (hl : Lies (Cel P w) (.mk 6 0 0 ⟨#[]⟩ [] d) ⟨none, 0, q, c⟩) :
    Calls Tryz.prog 100 #[.slice q d.length c] w fun e w' => e = .returned (.bool (senseD [] d)) ∧ Kept w w' := by
  have LD := Lib.hid hl
  have IM := Lib.hid (Met.made w)
  have KM := Lib.hid ((Kept.refl w).allocO (.map #[] 0))
  have hdl := hl.bounds.2.1
  simp only [Ob.d] at hdl
  unfold maxLen at hdl
  obtain ⟨R, hR⟩ : ∃ R, R = senseD [] d := ⟨_, rfl⟩
  have HR := Lib.hid hR
  rw [← hR]
  clear hl hR
  have hmm : ∀ (t : TypeId) (w : World), (Instr.makeMap t none).run Tryz.prog w = .ok (.map (some w.heap.size)) (w.alloc (.map #[] 0)) := fun _ _ => rfl
  go_enter Tryz.func100, Tryz.ntmps100
  go_wp2_with fail
  go_loopg [11] (d.length) (fun m i wr => ∃ (j : Nat), m = d.length - j ∧ j ≤ d.length ∧ i = .int .i64 j ∧ Kept w wr ∧ w.heap.size < wr.heap.size ∧ Met wr w.heap.size j (d.take j) ∧ Hid (R = senseD (d.take j) (d.drop j)))
  case atStart => exact ⟨0, by omega, Nat.zero_le _, rfl, KM.out, by simp, by rw [List.take_zero]; exact IM.out, Lib.hid (by rw [List.take_zero, List.drop_zero]; exact HR.out)⟩
  case round =>
    obtain ⟨j, hm, hj, rfl, hk, hsz, hI, HS⟩ := hrel
    have HK := Lib.hid hk
    have HI := Lib.hid hI
    clear hk hI IM KM
    by_cases hlt : j < d.length
    · obtain ⟨ek, x, bb, off, ⟨p', c', q', e'⟩, hxe, hqq, hPb, hbl, hx, hks, z0, y0, y1, y2, y3, y4, y5⟩ := (LD.out.kept HK.out).entry j hlt
      simp only [Ob.d] at hxe
      simp only [] at hqq y4 y5
      subst hqq
      have HEK := Lib.hid hks
      have HTS := Lib.hid (show d.take (j + 1) = d.take j ++ [(ek, x)] by rw [List.take_succ_eq_append_getElem hlt, hxe])
      have HST := Lib.hid (show R = if hasK (d.take j) ek || x.k == 0 then false else senseD (d.take (j + 1)) (d.drop (j + 1)) by rw [HS.out, senseD_step d j hlt, hxe])
      have HB1 := Lib.hid (Blk.fresh wr #[.string ek, .int .i64 x.k, .int .i64 x.n, .int .i64 x.f, .string x.s, .slice p' x.l.length c', .slice q' x.d.length e'] 50)
      have I1 := Lib.hid (HI.out.kept ((Kept.refl wr).alloc #[.string ek, .int .i64 x.k, .int .i64 x.n, .int .i64 x.f, .string x.s, .slice p' x.l.length c', .slice q' x.d.length e'] 50))
      have I2 := Lib.hid (I1.out.kept ((Kept.refl _).alloc #[] 154))
      have K1 := Lib.hid (HK.out.alloc #[.string ek, .int .i64 x.k, .int .i64 x.n, .int .i64 x.f, .string x.s, .slice p' x.l.length c', .slice q' x.d.length e'] 50)
      have K2 := Lib.hid (K1.out.alloc #[] 154)
      clear hxe hPb hx hks HS
      obtain ⟨T, hT⟩ : ∃ T, T = hasK (d.take j) ek := ⟨_, rfl⟩
      have HT := Lib.hid hT
      rw [← hT] at HST
      clear hT
      cases T
      · cases hx0 : (x.k == 0)
        · have HS1 := Lib.hid (show R = senseD (d.take (j + 1)) (d.drop (j + 1)) by rw [HST.out, hx0]; rfl)
          go_wp2_with (first | (at_lookup; refine wpList_met_ok rfl _ _ rfl I1.out rfl ek rfl HEK.out ?_; rw [← HT.out]) | (at_mapUpdate; refine wpList_met_put rfl _ _ _ rfl I2.out (by unfold maxLen; omega) rfl (ek, x) rfl HEK.out rfl ?_; intro w5 hI5 hg5))
          have K5 := Lib.hid (K2.out.gOwn hg5 (Nat.le_refl _))
          have S5 : w.heap.size < w5.heap.size := by
            have h1 := hg5.size
            simp at h1
            omega
          have I5 := Lib.hid hI5
          clear hI5 hg5
          go_roundg (d.length - (j + 1))
          case measure => omega
          case rel => exact ⟨j + 1, rfl, by omega, by go_num, K5.out, S5, by rw [HTS.out]; exact I5.out, HS1⟩
        · have HA := Lib.hid (show R = false by rw [HST.out, hx0]; rfl)
          go_wp2_with (at_lookup; refine wpList_met_ok rfl _ _ rfl I1.out rfl ek rfl HEK.out ?_; rw [← HT.out])
          go_ret
          exact ⟨ret_bool HA.out.symm, K2.out⟩
      · have HA := Lib.hid (show R = false by rw [HST.out]; rfl)
        go_wp2_with (at_lookup; refine wpList_met_ok rfl _ _ rfl I1.out rfl ek rfl HEK.out ?_; rw [← HT.out])
        go_ret
        exact ⟨ret_bool HA.out.symm, K2.out⟩
    · obtain rfl : j = d.length := by omega
      have HA := Lib.hid (show R = true by rw [HS.out, List.drop_eq_nil_of_le (Nat.le_refl _), senseD])
      go_wp2_with fail
      go_ret
      exact ⟨ret_bool HA.out.symm, HK.out⟩

set_option maxRecDepth 100000 in
set_option maxHeartbeats 4000000 in
theorem hasSense_any (P : Nat → Prop) (o : Ob) (h : Hd) (w : World) (hl : Lies (Cel P w) o h) :
    Calls Tryz.prog 70 #[objV o h] w fun e w' => e = .returned (.bool o.sense) ∧ Kept w w' := by
  have HE := Lib.hid (fun w' (k : Kept w w') => entriesSense_any P o.d h.q h.e w' (hl.kept k).rowD)
  have HW := Lib.hid (isWholeW_any o.f)
  have HBI := Lib.hid (isBit_any o.n)
  obtain ⟨p, c, q, e⟩ := h
  obtain ⟨R, hR⟩ : ∃ R, R = o.sense := ⟨_, rfl⟩
  have HR := Lib.hid hR
  rw [← hR]
  have K1 := Lib.hid ((Kept.refl w).alloc #[.int .i64 o.k, .int .i64 o.n, .int .i64 o.f, .string o.s, .slice p o.l.length c, .slice q o.d.length e] 32)
  have HB := Lib.hid (Blk.fresh w #[.int .i64 o.k, .int .i64 o.n, .int .i64 o.f, .string o.s, .slice p o.l.length c, .slice q o.d.length e] 32)
  clear hl hR
  unfold objV
  obtain ⟨k, n, f, s, l, d⟩ := o
  simp only [Ob.k, Ob.n, Ob.f, Ob.s, Ob.l, Ob.d] at HE HW HBI K1 HB ⊢
  by_cases ha : k = 0 ∨ k = 3 ∨ k = 4 ∨ k = 5
  · have HA := Lib.hid (show R = true by rw [HR.out, sense_mk, if_pos ha])
    rcases ha with rfl | rfl | rfl | rfl
    all_goals
      go_enter Tryz.func70, Tryz.ntmps70
      go_wp2_with fail
      go_ret
      exact ⟨ret_bool HA.out.symm, K1.out⟩
  · have n0 : (k == 0) = false := by rw [beq_eq_false_iff_ne]; omega
    have n3 : (k == 3) = false := by rw [beq_eq_false_iff_ne]; omega
    have n4 : (k == 4) = false := by rw [beq_eq_false_iff_ne]; omega
    have n5 : (k == 5) = false := by rw [beq_eq_false_iff_ne]; omega
    have HA0 := Lib.hid (show R = if k = 1 then n == 0 || n == 1 else if k = 2 then n == 0 || (n == 1 && wholeF f) else if k = 7 then decide (0 ≤ n) && (decide (0 ≤ f) && wholeF f) else if k = 6 ∨ k = 8 then senseD [] d else false by rw [HR.out, sense_mk, if_neg ha])
    by_cases h1 : k = 1
    · have HA := Lib.hid (show R = (n == 0 || n == 1) by rw [HA0.out, if_pos h1])
      subst h1
      clear ha
      obtain ⟨V, hV⟩ : ∃ V, V = (n == 0 || n == 1) := ⟨_, rfl⟩
      rw [← hV] at HA HBI
      clear hV n0 n3 n4 n5
      go_enter Tryz.func70, Tryz.ntmps70
      go_wp2_with fail
      (with_reducible refine (HBI.out _).mono ?_)
      rintro e' w2 ⟨rfl, hk2⟩
      have K2 := Lib.hid (K1.out.trans hk2)
      clear hk2
      go_wp2_with fail
      go_ret
      exact ⟨ret_bool HA.out.symm, K2.out⟩
    · have n1 : (k == 1) = false := by rw [beq_eq_false_iff_ne]; exact h1
      by_cases h2 : k = 2
      · have HA := Lib.hid (show R = (n == 0 || (n == 1 && wholeF f)) by rw [HA0.out, if_neg h1, if_pos h2])
        subst h2
        clear ha h1 n0 n3 n4 n5 n1
        obtain ⟨V, hV⟩ : ∃ V, V = wholeF f := ⟨_, rfl⟩
        rw [← hV] at HA HW
        clear hV
        cases e0 : (n == 0)
        · cases e1 : (n == 1)
          · have HA1 := Lib.hid (show R = false by rw [HA.out, e0, e1]; rfl)
            go_enter Tryz.func70, Tryz.ntmps70
            go_wp2_with fail
            go_ret
            exact ⟨ret_bool HA1.out.symm, K1.out⟩
          · have HA1 := Lib.hid (show R = V by rw [HA.out, e0, e1]; rfl)
            go_enter Tryz.func70, Tryz.ntmps70
            go_wp2_with fail
            (with_reducible refine (HW.out _).mono ?_)
            rintro e' w2 ⟨rfl, hk2⟩
            have K2 := Lib.hid (K1.out.trans hk2)
            clear hk2
            go_wp2_with fail
            go_ret
            exact ⟨ret_bool HA1.out.symm, K2.out⟩
        · have HA1 := Lib.hid (show R = true by rw [HA.out, e0]; rfl)
          go_enter Tryz.func70, Tryz.ntmps70
          go_wp2_with fail
          go_ret
          exact ⟨ret_bool HA1.out.symm, K1.out⟩
      · have n2 : (k == 2) = false := by rw [beq_eq_false_iff_ne]; exact h2
        by_cases h7 : k = 7
        · have HA := Lib.hid (show R = (decide (0 ≤ n) && (decide (0 ≤ f) && wholeF f)) by rw [HA0.out, if_neg h1, if_neg h2, if_pos h7])
          subst h7
          clear ha h1 h2 n0 n3 n4 n5 n1 n2
          obtain ⟨V, hV⟩ : ∃ V, V = wholeF f := ⟨_, rfl⟩
          rw [← hV] at HA HW
          clear hV
          by_cases e0 : 0 ≤ n
          · by_cases e1 : 0 ≤ f
            · have HA1 := Lib.hid (show R = V by rw [HA.out, decide_eq_true e0, decide_eq_true e1]; rfl)
              go_enter Tryz.func70, Tryz.ntmps70
              go_wp2_with fail
              (with_reducible refine (HW.out _).mono ?_)
              rintro e' w2 ⟨rfl, hk2⟩
              have K2 := Lib.hid (K1.out.trans hk2)
              clear hk2
              go_wp2_with fail
              go_ret
              exact ⟨ret_bool HA1.out.symm, K2.out⟩
            · have HA1 := Lib.hid (show R = false by rw [HA.out, decide_eq_true e0, decide_eq_false e1]; rfl)
              go_enter Tryz.func70, Tryz.ntmps70
              go_wp2_with fail
              go_ret
              exact ⟨ret_bool HA1.out.symm, K1.out⟩
          · have HA1 := Lib.hid (show R = false by rw [HA.out, decide_eq_false e0]; rfl)
            go_enter Tryz.func70, Tryz.ntmps70
            go_wp2_with fail
            go_ret
            exact ⟨ret_bool HA1.out.symm, K1.out⟩
        · have n7 : (k == 7) = false := by rw [beq_eq_false_iff_ne]; exact h7
          by_cases h68 : k = 6 ∨ k = 8
          · have HA := Lib.hid (show R = senseD [] d by rw [HA0.out, if_neg h1, if_neg h2, if_neg h7, if_pos h68])
            obtain ⟨V, hV⟩ : ∃ V, V = senseD [] d := ⟨_, rfl⟩
            rw [← hV] at HA HE
            clear hV ha h1 h2 h7 n0 n3 n4 n5 n1 n2 n7
            rcases h68 with rfl | rfl
            all_goals
              go_enter Tryz.func70, Tryz.ntmps70
              go_wp2_with fail
              (with_reducible refine (HE.out _ K1.out).mono ?_)
              rintro e' w2 ⟨rfl, hk2⟩
              have K2 := Lib.hid (K1.out.trans hk2)
              clear hk2
              go_wp2_with fail
              go_ret
              exact ⟨ret_bool HA.out.symm, K2.out⟩
          · have n6 : (k == 6) = false := by rw [beq_eq_false_iff_ne]; omega
            have n8 : (k == 8) = false := by rw [beq_eq_false_iff_ne]; omega
            have HA := Lib.hid (show R = false by rw [HA0.out, if_neg h1, if_neg h2, if_neg h7, if_neg h68])
            clear ha h1 h2 h7 h68
            go_enter Tryz.func70, Tryz.ntmps70
            go_wp2_with fail
            go_ret
            exact ⟨ret_bool HA.out.symm, K1.out⟩

set_option maxRecDepth 100000 in
set_option maxHeartbeats 4000000 in
theorem inRange_any (o : Ob) (h : Hd) (w : World) :
    Calls Tryz.prog 71 #[objV o h] w fun e w' => e = .returned (.bool o.inRange) ∧ Kept w w' := by
  obtain ⟨p, c, q, e⟩ := h
  obtain ⟨R, hR⟩ : ∃ R, R = o.inRange := ⟨_, rfl⟩
  have HR := Lib.hid hR
  rw [← hR]
  have K1 := Lib.hid ((Kept.refl w).alloc #[.int .i64 o.k, .int .i64 o.n, .int .i64 o.f, .string o.s, .slice p o.l.length c, .slice q o.d.length e] 32)
  have HB := Lib.hid (Blk.fresh w #[.int .i64 o.k, .int .i64 o.n, .int .i64 o.f, .string o.s, .slice p o.l.length c, .slice q o.d.length e] 32)
  clear hR
  unfold objV
  obtain ⟨k, n, f, s, l, d⟩ := o
  simp only [Ob.k, Ob.n, Ob.f, Ob.s, Ob.l, Ob.d] at K1 HB ⊢
  have HA0 := Lib.hid (show R = if k = 2 then Fx.saneB f else if k = 7 then Fx.saneB f && decide (n ≤ 2147483) else true from HR.out)
  obtain ⟨V, hV⟩ : ∃ V, V = Fx.saneB f := ⟨_, rfl⟩
  have HS := Lib.hid (show Calls Tryz.prog 81 #[.slice (some ⟨w.heap.size + 1, 0, none⟩) 1 1] ((w.alloc (.cells #[.int .i64 k, .int .i64 n, .int .i64 f, .string s, .slice p l.length c, .slice q d.length e] 32)).alloc (.cells #[.int .i64 f] 29)) fun e' w' => e' = .returned (.bool (Fx.saneB f)) ∧ (w.alloc (.cells #[.int .i64 k, .int .i64 n, .int .i64 f, .string s, .slice p l.length c, .slice q d.length e] 32)).alloc (.cells #[.int .i64 f] 29) = w' from sane_1 f _ _ (by simp [go_sem]))
  rw [← hV] at HA0 HS
  clear hV HR
  by_cases h2 : k = 2
  · have HA := Lib.hid (show R = V by rw [HA0.out, if_pos h2])
    subst h2
    go_enter Tryz.func71, Tryz.ntmps71
    go_wp2_with fail
    (with_reducible refine HS.out.mono ?_)
    rintro e' w2 ⟨rfl, rfl⟩
    have K2 := Lib.hid (K1.out.alloc #[.int .i64 f] 29)
    go_wp2_with fail
    go_ret
    exact ⟨ret_bool HA.out.symm, K2.out⟩
  · have n2 : (k == 2) = false := by rw [beq_eq_false_iff_ne]; exact h2
    by_cases h7 : k = 7
    · have HA := Lib.hid (show R = (V && decide (n ≤ 2147483)) by rw [HA0.out, if_neg h2, if_pos h7])
      subst h7
      have zz : w.heap.size < w.heap.size + 1 := Nat.lt_succ_self _
      obtain ⟨u0, u1, u2, u3, u4, u5⟩ := (HB.out.alloc (.cells #[.int .i64 f] 29)).cells6
      cases V
      · have HA1 := Lib.hid (show R = false by rw [HA.out]; rfl)
        clear h2 n2
        go_enter Tryz.func71, Tryz.ntmps71
        go_wp2_with fail
        (with_reducible refine HS.out.mono ?_)
        rintro e' w2 ⟨rfl, rfl⟩
        have K2 := Lib.hid (K1.out.alloc #[.int .i64 f] 29)
        go_wp2_with fail
        go_ret
        exact ⟨ret_bool HA1.out.symm, K2.out⟩
      · by_cases hn : n ≤ 2147483
        · have HA1 := Lib.hid (show R = true by rw [HA.out, decide_eq_true hn]; rfl)
          clear h2 n2
          go_enter Tryz.func71, Tryz.ntmps71
          go_wp2_with fail
          (with_reducible refine HS.out.mono ?_)
          rintro e' w2 ⟨rfl, rfl⟩
          have K2 := Lib.hid (K1.out.alloc #[.int .i64 f] 29)
          go_wp2_with fail
          go_ret
          exact ⟨ret_bool HA1.out.symm, K2.out⟩
        · have HA1 := Lib.hid (show R = false by rw [HA.out, decide_eq_false hn]; rfl)
          clear h2 n2
          go_enter Tryz.func71, Tryz.ntmps71
          go_wp2_with fail
          (with_reducible refine HS.out.mono ?_)
          rintro e' w2 ⟨rfl, rfl⟩
          have K2 := Lib.hid (K1.out.alloc #[.int .i64 f] 29)
          go_wp2_with fail
          go_ret
          exact ⟨ret_bool (by rw [HA1.out]; exact decide_eq_false (by omega)), K2.out⟩
    · have n7 : (k == 7) = false := by rw [beq_eq_false_iff_ne]; exact h7
      have HA := Lib.hid (show R = true by rw [HA0.out, if_neg h2, if_neg h7])
      clear h2 h7
      go_enter Tryz.func71, Tryz.ntmps71
      go_wp2_with fail
      go_ret
      exact ⟨ret_bool HA.out.symm, K1.out⟩

set_option maxRecDepth 100000 in
set_option maxHeartbeats 4000000 in
theorem tooMany_any (P : Nat → Prop) (o : Ob) (h : Hd) (w : World) (hl : Lies (Cel P w) o h) :
    Calls Tryz.prog 72 #[objV o h] w fun e w' => e = .returned (.bool o.many) ∧ Kept w w' := by
  have HE := Lib.hid (fun w' => hasEntriesW_any o h w')
  have hb := hl.bounds
  obtain ⟨p, c, q, e⟩ := h
  obtain ⟨R, hR⟩ : ∃ R, R = o.many := ⟨_, rfl⟩
  rw [← hR]
  unfold objV at HE ⊢
  obtain ⟨E, hE⟩ : ∃ E, E = o.ents := ⟨_, rfl⟩
  rw [← hE] at HE
  have K1 := Lib.hid ((Kept.refl w).alloc #[.int .i64 o.k, .int .i64 o.n, .int .i64 o.f, .string o.s, .slice p o.l.length c, .slice q o.d.length e] 32)
  have HB := Lib.hid (Blk.fresh w #[.int .i64 o.k, .int .i64 o.n, .int .i64 o.f, .string o.s, .slice p o.l.length c, .slice q o.d.length e] 32)
  have HKE := Lib.hid (show o.k = 5 → E = false by intro h5; rw [hE]; unfold Ob.ents; rw [h5]; rfl)
  obtain ⟨k, n, f, s, l, d⟩ := o
  have HA := Lib.hid (show R = ((k == 5 && decide (1024 < l.length)) || (E && decide (1024 < d.length))) by rw [hR, hE]; rfl)
  simp only [Ob.k, Ob.n, Ob.f, Ob.s, Ob.l, Ob.d] at HE K1 HB HKE hb ⊢
  obtain ⟨hb1, hb2, _⟩ := hb
  unfold maxLen at hb1 hb2
  clear hl hR hE
  cases h5 : (k == 5)
  · cases E
    · have HA1 := Lib.hid (show R = false by rw [HA.out, h5]; rfl)
      go_enter Tryz.func72, Tryz.ntmps72
      go_wp2_with fail
      (with_reducible refine (HE.out _).mono ?_)
      rintro e' w2 ⟨rfl, hk2⟩
      have K2 := Lib.hid (K1.out.trans hk2)
      clear hk2
      go_wp2_with fail
      go_ret
      exact ⟨ret_bool HA1.out.symm, K2.out⟩
    · have HA1 := Lib.hid (show R = decide (1024 < d.length) by rw [HA.out, h5]; rfl)
      go_enter Tryz.func72, Tryz.ntmps72
      go_wp2_with fail
      (with_reducible refine (HE.out _).mono ?_)
      rintro e' w2 ⟨rfl, hk2⟩
      have K2 := Lib.hid (K1.out.trans hk2)
      obtain ⟨u0, u1, u2, u3, u4, u5⟩ := (HB.out.kept hk2).cells6
      clear hk2
      go_wp2_with fail
      go_ret
      exact ⟨ret_bool (by rw [HA1.out]; first | rfl | (rw [Bool.eq_iff_iff, decide_eq_true_iff, decide_eq_true_iff]; omega)), K2.out⟩
  · have HE0 := Lib.hid (HKE.out (by simpa using h5))
    by_cases hm : 1024 < l.length
    · have HA1 := Lib.hid (show R = true by rw [HA.out, h5, decide_eq_true hm]; rfl)
      go_enter Tryz.func72, Tryz.ntmps72
      go_wp2_with fail
      go_ret
      exact ⟨ret_bool HA1.out.symm, K1.out⟩
    · have HA1 := Lib.hid (show R = false by rw [HA.out, h5, decide_eq_false hm, HE0.out]; rfl)
      have hE := HE0.out
      subst hE
      go_enter Tryz.func72, Tryz.ntmps72
      go_wp2_with fail
      (with_reducible refine (HE.out _).mono ?_)
      rintro e' w2 ⟨rfl, hk2⟩
      have K2 := Lib.hid (K1.out.trans hk2)
      clear hk2
      go_wp2_with fail
      go_ret
      exact ⟨ret_bool (by rw [HA1.out]; exact decide_eq_false (by omega)), K2.out⟩

set_option maxRecDepth 100000 in
theorem isNest_any (o : Ob) (h : Hd) (w : World) :
    Calls Tryz.prog 73 #[objV o h] w fun e w' => e = .returned (.bool o.nest) ∧ Kept w w' := by
  have HE := Lib.hid (fun w' => hasEntriesW_any o h w')
  obtain ⟨p, c, q, e⟩ := h
  obtain ⟨R, hR⟩ : ∃ R, R = o.nest := ⟨_, rfl⟩
  rw [← hR]
  unfold objV at HE ⊢
  obtain ⟨E, hE⟩ : ∃ E, E = o.ents := ⟨_, rfl⟩
  have HA := Lib.hid (show R = (o.k == 5 || E) by rw [hR, hE]; rfl)
  rw [← hE] at HE
  have K1 := Lib.hid ((Kept.refl w).alloc #[.int .i64 o.k, .int .i64 o.n, .int .i64 o.f, .string o.s, .slice p o.l.length c, .slice q o.d.length e] 32)
  clear hR hE
  obtain ⟨k, n, f, s, l, d⟩ := o
  simp only [Ob.k, Ob.n, Ob.f, Ob.s, Ob.l, Ob.d] at HA HE K1 ⊢
  cases h5 : (k == 5)
  · have HA1 := Lib.hid (show R = E by rw [HA.out, h5]; rfl)
    go_enter Tryz.func73, Tryz.ntmps73
    go_wp2_with fail
    (with_reducible refine (HE.out _).mono ?_)
    rintro e' w2 ⟨rfl, hk2⟩
    have K2 := Lib.hid (K1.out.trans hk2)
    clear hk2
    go_wp2_with fail
    go_ret
    exact ⟨ret_bool HA1.out.symm, K2.out⟩
  · have HA1 := Lib.hid (show R = true by rw [HA.out, h5]; rfl)
    go_enter Tryz.func73, Tryz.ntmps73
    go_wp2_with fail
    go_ret
    exact ⟨ret_bool HA1.out.symm, K1.out⟩

/-- What saneIn says of an object, so many deep. -/
def SaneC (P : Nat → Prop) (x : Ob) : Prop :=
  ∀ (h : Hd) (dep : Nat) (w : World), Lies (Cel P w) x h → dep ≤ 64 → Calls Tryz.prog 47 #[objV x h, .int .i64 dep] w fun e w' => e = .returned (.int .i64 (x.sane dep)) ∧ Kept w w'

set_option maxRecDepth 100000 in
set_option maxHeartbeats 4000000 in
theorem saneInside_any (P : Nat → Prop) (x : Ob) (IHL : ∀ z ∈ x.l, SaneC P z) (IHD : ∀ e ∈ x.d, SaneC P e.2) (h : Hd) (dep : Nat) (w : World) (hl : Lies (Cel P w) x h) (hd : dep ≤ 65) (hd' : x.nest = true → dep ≤ 64) :
    Calls Tryz.prog 74 #[objV x h, .int .i64 dep] w fun e w' => e = .returned (.int .i64 (if x.k = 5 then saneL x.l dep else if x.k = 6 ∨ x.k = 8 then saneE x.d dep else 0)) ∧ Kept w w' := by
  have HL := Lib.hid hl
  have HIL := Lib.hid IHL
  have HID := Lib.hid IHD
  have HDN := Lib.hid hd'
  have hb := hl.bounds
  have HE := Lib.hid (fun w' => hasEntriesW_any x h w')
  obtain ⟨p, c, q, ec⟩ := h
  obtain ⟨R, hR⟩ : ∃ R, R = (if x.k = 5 then saneL x.l dep else if x.k = 6 ∨ x.k = 8 then saneE x.d dep else 0) := ⟨_, rfl⟩
  have HR := Lib.hid hR
  rw [← hR]
  unfold objV at HE ⊢
  have hen : x.ents = (x.k == 6 || x.k == 8) := rfl
  have hne : x.nest = (x.k == 5 || x.ents) := rfl
  have HEN := Lib.hid hen
  have HNE := Lib.hid hne
  clear hl IHL IHD hR hd' hen hne
  obtain ⟨k, n, f, s, l, d⟩ := x
  have HR := Lib.hid (show R = (if k = 5 then saneL l dep else if k = 6 ∨ k = 8 then saneE d dep else 0) from HR.out)
  simp only [Ob.k, Ob.n, Ob.f, Ob.s, Ob.l, Ob.d] at HIL HID hb HE HEN HNE ⊢
  obtain ⟨hb1, hb2, _⟩ := hb
  unfold maxLen at hb1 hb2
  have HI := Lib.hid (In.fresh (In.start w) #[.int .i64 k, .int .i64 n, .int .i64 f, .string s, .slice p l.length c, .slice q d.length ec] 32)
  have KI := Lib.hid (In.kW HI.out)
  by_cases h5 : k = 5
  · have HR1 := Lib.hid (show R = saneL l dep by rw [HR.out, if_pos h5])
    have hdd : dep ≤ 64 := HDN.out (by rw [HNE.out, h5]; rfl)
    have HE0 := Lib.hid (show Ob.ents (.mk k n f s l d) = false by rw [HEN.out, h5]; rfl)
    rw [HE0.out] at HE
    subst h5
    clear hd HR HDN HEN HNE HE0 HID
    go_enter Tryz.func74, Tryz.ntmps74
    go_wp2_with fail
    go_loopg [17] (l.length) (fun m i wr => ∃ (j : Nat), m = l.length - j ∧ j ≤ l.length ∧ i = .int .i64 j ∧ Hid (R = saneL (l.drop j) dep) ∧ In w [(w.heap.size, #[.int .i64 5, .int .i64 n, .int .i64 f, .string s, .slice p l.length c, .slice q d.length ec], 32)] wr)
    case atStart => exact ⟨0, by omega, Nat.zero_le _, rfl, Lib.hid (by rw [List.drop_zero]; exact HR1.out), HI.out⟩
    case round =>
      obtain ⟨j, hm, hj, rfl, HS, hI⟩ := hrel
      have HIR := Lib.hid hI
      have HK := Lib.hid (In.kW hI)
      obtain ⟨t0, t1, t2, t3, t4, t5⟩ := (HIR.out.mem List.mem_cons_self).cells6
      clear hI HI KI
      by_cases hlt : j < l.length
      · obtain ⟨x, b, off, ⟨p', c', q', e'⟩, hxe, hp, hP, hbl, hx, y0, y1, y2, y3, y4, y5⟩ := (HL.out.kept HK.out).elem j hlt
        simp only [Ob.l] at hxe
        simp only [] at hp y4 y5
        subst hp
        have hmem := List.getElem_mem hlt
        rw [hxe] at hmem
        have IX0 := HIL.out x hmem ⟨p', c', q', e'⟩ dep
        have HST := Lib.hid (show R = if x.sane dep ≠ 0 then x.sane dep else saneL (l.drop (j + 1)) dep by rw [HS.out, saneL_step l j hlt, hxe])
        obtain ⟨V, hV⟩ : ∃ V, V = x.sane dep := ⟨_, rfl⟩
        rw [← hV] at IX0 HST
        unfold objV at IX0
        simp only [] at IX0
        have IX := Lib.hid IX0
        have HX := Lib.hid (hx.kept ((Kept.refl wr).alloc #[.int .i64 x.k, .int .i64 x.n, .int .i64 x.f, .string x.s, .slice p' x.l.length c', .slice q' x.d.length e'] 32))
        have HIA := Lib.hid (HIR.out.alloc (.cells #[.int .i64 x.k, .int .i64 x.n, .int .i64 x.f, .string x.s, .slice p' x.l.length c', .slice q' x.d.length e'] 32))
        clear IX0 hx hmem hxe hV hP
        by_cases hv : V = 0
        · have HS1 := Lib.hid (show R = saneL (l.drop (j + 1)) dep by rw [HST.out, if_neg (by simpa using hv)])
          subst hv
          go_wp2_with fail
          (with_reducible refine (IX.out _ HX.out hdd).mono ?_)
          rintro ee w4 ⟨rfl, hk4⟩
          have HI4 := Lib.hid (HIA.out.kept hk4)
          clear hk4 t0 t1 t2 t3 t4 t5 y0 y1 y2 y3 y4 y5
          go_wp2_with fail
          go_roundg (l.length - (j + 1))
          case measure => omega
          case rel => exact ⟨j + 1, rfl, by omega, by go_num, HS1, HI4.out⟩
        · have HS1 := Lib.hid (show R = V by rw [HST.out, if_pos hv])
          have hv' : (V != 0) = true := by rw [bne_iff_ne]; exact hv
          clear hv
          go_wp2_with fail
          (with_reducible refine (IX.out _ HX.out hdd).mono ?_)
          rintro ee w4 ⟨rfl, hk4⟩
          have K4 := Lib.hid (In.kW (HIA.out.kept hk4))
          clear hk4 t0 t1 t2 t3 t4 t5 y0 y1 y2 y3 y4 y5
          go_wp2_with fail
          go_ret
          exact ⟨ret_int HS1.out.symm, K4.out⟩
      · obtain rfl : j = l.length := by omega
        have HA := Lib.hid (show R = 0 by rw [HS.out, List.drop_eq_nil_of_le (Nat.le_refl _), saneL_nil])
        go_wp2_with fail
        (with_reducible refine (HE.out _).mono ?_)
        rintro ee w3 ⟨rfl, hk3⟩
        have K3 := Lib.hid (HK.out.trans hk3)
        clear hk3
        go_wp2_with fail
        go_ret
        exact ⟨ret_int HA.out.symm, K3.out⟩
  · have n5 : (k == 5) = false := by rw [beq_eq_false_iff_ne]; exact h5
    by_cases h68 : k = 6 ∨ k = 8
    · have HR1 := Lib.hid (show R = saneE d dep by rw [HR.out, if_neg h5, if_pos h68])
      have HE0 := Lib.hid (show Ob.ents (.mk k n f s l d) = true by rw [HEN.out]; rcases h68 with h | h <;> rw [h] <;> rfl)
      have hdd : dep ≤ 64 := HDN.out (by rw [HNE.out, HE0.out, Bool.or_true])
      rw [HE0.out] at HE
      clear hd HR HDN HEN HNE HE0 HIL h5 h68
      go_enter Tryz.func74, Tryz.ntmps74
      go_wp2_with fail
      (with_reducible refine (HE.out _).mono ?_)
      rintro ee w3 ⟨rfl, hk3⟩
      have HI3 := Lib.hid (HI.out.kept hk3)
      obtain ⟨t0, t1, t2, t3, t4, t5⟩ := (HI3.out.mem List.mem_cons_self).cells6
      clear hk3 HI KI
      go_wp2_with fail
      clear t0 t1 t2 t3 t4 t5
      go_loopg [33] (d.length) (fun m i wr => ∃ (j : Nat), m = d.length - j ∧ j ≤ d.length ∧ i = .int .i64 j ∧ Hid (R = saneE (d.drop j) dep) ∧ In w [(w.heap.size, #[.int .i64 k, .int .i64 n, .int .i64 f, .string s, .slice p l.length c, .slice q d.length ec], 32)] wr)
      case atStart => exact ⟨0, by omega, Nat.zero_le _, rfl, Lib.hid (by rw [List.drop_zero]; exact HR1.out), HI3.out⟩
      case round =>
        obtain ⟨j, hm, hj, rfl, HS, hI⟩ := hrel
        have HIR := Lib.hid hI
        have HK := Lib.hid (In.kW hI)
        clear hI HI3
        by_cases hlt : j < d.length
        · obtain ⟨ek, x, b, off, ⟨p', c', q', e'⟩, hxe, hp, hP, hbl, hx, -, z0, y0, y1, y2, y3, y4, y5⟩ := (HL.out.kept HK.out).entry j hlt
          simp only [Ob.d] at hxe
          simp only [] at hp y4 y5
          subst hp
          have hmem := List.getElem_mem hlt
          rw [hxe] at hmem
          have IX0 := HID.out (ek, x) hmem ⟨p', c', q', e'⟩ dep
          have HST := Lib.hid (show R = if x.sane dep ≠ 0 then x.sane dep else saneE (d.drop (j + 1)) dep by rw [HS.out, saneE_step d j hlt, hxe])
          obtain ⟨V, hV⟩ : ∃ V, V = x.sane dep := ⟨_, rfl⟩
          rw [← hV] at IX0 HST
          unfold objV at IX0
          simp only [] at IX0
          have IX := Lib.hid IX0
          have HX := Lib.hid (hx.kept ((Kept.refl wr).alloc #[.string ek, .int .i64 x.k, .int .i64 x.n, .int .i64 x.f, .string x.s, .slice p' x.l.length c', .slice q' x.d.length e'] 50))
          have HIA := Lib.hid (HIR.out.alloc (.cells #[.string ek, .int .i64 x.k, .int .i64 x.n, .int .i64 x.f, .string x.s, .slice p' x.l.length c', .slice q' x.d.length e'] 50))
          clear IX0 hx hmem hxe hV hP
          by_cases hv : V = 0
          · have HS1 := Lib.hid (show R = saneE (d.drop (j + 1)) dep by rw [HST.out, if_neg (by simpa using hv)])
            subst hv
            go_wp2_with fail
            (with_reducible refine (IX.out _ HX.out hdd).mono ?_)
            rintro ee w4 ⟨rfl, hk4⟩
            have HI4 := Lib.hid (HIA.out.kept hk4)
            clear hk4 z0 y0 y1 y2 y3 y4 y5
            go_wp2_with fail
            go_roundg (d.length - (j + 1))
            case measure => omega
            case rel => exact ⟨j + 1, rfl, by omega, by go_num, HS1, HI4.out⟩
          · have HS1 := Lib.hid (show R = V by rw [HST.out, if_pos hv])
            have hv' : (V != 0) = true := by rw [bne_iff_ne]; exact hv
            clear hv
            go_wp2_with fail
            (with_reducible refine (IX.out _ HX.out hdd).mono ?_)
            rintro ee w4 ⟨rfl, hk4⟩
            have K4 := Lib.hid (In.kW (HIA.out.kept hk4))
            clear hk4 z0 y0 y1 y2 y3 y4 y5
            go_wp2_with fail
            go_ret
            exact ⟨ret_int HS1.out.symm, K4.out⟩
        · obtain rfl : j = d.length := by omega
          have HA := Lib.hid (show R = 0 by rw [HS.out, List.drop_eq_nil_of_le (Nat.le_refl _), saneE_nil])
          go_wp2_with fail
          go_ret
          exact ⟨ret_int HA.out.symm, HK.out⟩
    · have HA := Lib.hid (show R = 0 by rw [HR.out, if_neg h5, if_neg h68])
      have HE0 := Lib.hid (show Ob.ents (.mk k n f s l d) = false by rw [HEN.out]; rw [not_or] at h68; rw [beq_eq_false_iff_ne.2 h68.1, beq_eq_false_iff_ne.2 h68.2]; rfl)
      rw [HE0.out] at HE
      clear h5 h68 HE0 HEN HNE
      go_enter Tryz.func74, Tryz.ntmps74
      go_wp2_with fail
      (with_reducible refine (HE.out _).mono ?_)
      rintro ee w3 ⟨rfl, hk3⟩
      have K3 := Lib.hid (KI.out.trans hk3)
      clear hk3
      go_wp2_with fail
      go_ret
      exact ⟨ret_int HA.out.symm, K3.out⟩

theorem own_eq (o : Ob) (dep : Nat) (b1 b2 b3 b4 : Bool) (h1 : b1 = o.sense) (h2 : b2 = o.inRange) (h3 : b3 = o.many) (h4 : b4 = o.nest) : own o dep = if !b1 || (o.k == 8 && decide (0 < dep)) then 1 else if !b2 then 2 else if b3 then 6 else if b4 && decide (64 ≤ dep) then 5 else 0 := by
  rw [h1, h2, h3, h4]; rfl

set_option maxRecDepth 100000 in
set_option maxHeartbeats 4000000 in
theorem saneIn_step (P : Nat → Prop) (x : Ob) (IHL : ∀ z ∈ x.l, SaneC P z) (IHD : ∀ e ∈ x.d, SaneC P e.2) : SaneC P x := by
  intro h dep w hl hd
  obtain ⟨b1, hb1⟩ : ∃ b1, b1 = x.sense := ⟨_, rfl⟩
  obtain ⟨b2, hb2⟩ : ∃ b2, b2 = x.inRange := ⟨_, rfl⟩
  obtain ⟨b3, hb3⟩ : ∃ b3, b3 = x.many := ⟨_, rfl⟩
  obtain ⟨b4, hb4⟩ : ∃ b4, b4 = x.nest := ⟨_, rfl⟩
  have C1 := Lib.hid (fun w' (k : Kept w w') => hasSense_any P x h w' (hl.kept k))
  have C2 := Lib.hid (fun w' => inRange_any x h w')
  have C3 := Lib.hid (fun w' (k : Kept w w') => tooMany_any P x h w' (hl.kept k))
  have C4 := Lib.hid (fun w' => isNest_any x h w')
  have C5 := Lib.hid (fun w' (k : Kept w w') (hn : x.nest = true → dep + 1 ≤ 64) => saneInside_any P x IHL IHD h (dep + 1) w' (hl.kept k) (by omega) hn)
  obtain ⟨V, hV⟩ : ∃ V, V = (if x.k = 5 then saneL x.l (dep + 1) else if x.k = 6 ∨ x.k = 8 then saneE x.d (dep + 1) else 0) := ⟨_, rfl⟩
  obtain ⟨R, hR⟩ : ∃ R, R = x.sane dep := ⟨_, rfl⟩
  have HR := Lib.hid (show R = if (if !b1 || (x.k == 8 && decide (0 < dep)) then (1 : Int) else if !b2 then 2 else if b3 then 6 else if b4 && decide (64 ≤ dep) then 5 else 0) ≠ 0 then (if !b1 || (x.k == 8 && decide (0 < dep)) then (1 : Int) else if !b2 then 2 else if b3 then 6 else if b4 && decide (64 ≤ dep) then 5 else 0) else V by rw [hR, hV, sane_eq, own_eq x dep b1 b2 b3 b4 hb1 hb2 hb3 hb4])
  have hdi : ((dep + 1 : Nat) : Int) = (dep : Int) + 1 := by omega
  rw [← hb1] at C1
  rw [← hb2] at C2
  rw [← hb3] at C3
  rw [← hb4] at C4 C5
  rw [← hV, hdi] at C5
  rw [← hR]
  clear hb1 hb2 hb3 hb4 hR hV hl IHL IHD hdi
  obtain ⟨p, c, q, ec⟩ := h
  unfold objV at C1 C2 C3 C4 C5 ⊢
  have HI := Lib.hid (In.fresh (In.start w) #[.int .i64 x.k, .int .i64 x.n, .int .i64 x.f, .string x.s, .slice p x.l.length c, .slice q x.d.length ec] 32)
  have K1 := Lib.hid (In.kW HI.out)
  cases b1
  · have HA := Lib.hid (show R = 1 by rw [HR.out]; simp)
    go_enter Tryz.func47, Tryz.ntmps47
    go_wp2_with fail
    (with_reducible refine (C1.out _ K1.out).mono ?_)
    rintro e w2 ⟨rfl, hk2⟩
    have K2 := Lib.hid (K1.out.trans hk2)
    clear hk2
    go_wp2_with fail
    go_ret
    exact ⟨ret_int HA.out.symm, K2.out⟩
  · by_cases h8 : x.k = 8 ∧ 0 < dep
    · have HA := Lib.hid (show R = 1 by rw [HR.out, h8.1, decide_eq_true h8.2]; simp)
      have k8 : (x.k == 8) = true := by rw [h8.1]; rfl
      have hd0 : (0 : Int) < (dep : Int) := by omega
      clear h8
      go_enter Tryz.func47, Tryz.ntmps47
      go_wp2_with fail
      (with_reducible refine (C1.out _ K1.out).mono ?_)
      rintro e w2 ⟨rfl, hk2⟩
      have HI2 := Lib.hid (HI.out.kept hk2)
      have K2 := Lib.hid (In.kW HI2.out)
      obtain ⟨t0, t1, t2, t3, t4, t5⟩ := (HI2.out.mem List.mem_cons_self).cells6
      clear hk2
      go_wp2_with fail
      go_ret
      exact ⟨ret_int HA.out.symm, K2.out⟩
    · have HR1 := Lib.hid (show R = if (if !b2 then (2 : Int) else if b3 then 6 else if b4 && decide (64 ≤ dep) then 5 else 0) ≠ 0 then (if !b2 then (2 : Int) else if b3 then 6 else if b4 && decide (64 ≤ dep) then 5 else 0) else V by
        rw [HR.out]
        have : (x.k == 8 && decide (0 < dep)) = false := by
          rw [Bool.and_eq_false_iff]
          by_cases h : x.k = 8
          · exact .inr (decide_eq_false fun h0 => h8 ⟨h, h0⟩)
          · exact .inl (beq_eq_false_iff_ne.2 h)
        rw [this]; rfl)
      have hcase : (x.k == 8) = false ∨ ((x.k == 8) = true ∧ ¬ (0 : Int) < (dep : Int)) := by
        by_cases h : x.k = 8
        · exact .inr ⟨by rw [h]; rfl, fun h0 => h8 ⟨h, by omega⟩⟩
        · exact .inl (beq_eq_false_iff_ne.2 h)
      clear h8 HR
      rcases hcase with k8 | ⟨k8, hd0⟩
      all_goals
        go_enter Tryz.func47, Tryz.ntmps47
        go_wp2_with fail
        (with_reducible refine (C1.out _ K1.out).mono ?_)
        rintro e w2 ⟨rfl, hk2⟩
        have HI2 := Lib.hid (HI.out.kept hk2)
        have K2 := Lib.hid (In.kW HI2.out)
        obtain ⟨t0, t1, t2, t3, t4, t5⟩ := (HI2.out.mem List.mem_cons_self).cells6
        clear hk2
        go_wp2_with fail
        (with_reducible refine (C2.out _).mono ?_)
        rintro e w3 ⟨rfl, hk3⟩
        have HI3 := Lib.hid (HI2.out.kept hk3)
        have K3 := Lib.hid (In.kW HI3.out)
        clear t0 t1 t2 t3 t4 t5 hk3
        obtain ⟨t0, t1, t2, t3, t4, t5⟩ := (HI3.out.mem List.mem_cons_self).cells6
        cases b2
        · have HA := Lib.hid (show R = 2 by rw [HR1.out]; simp)
          go_wp2_with fail
          go_ret
          exact ⟨ret_int HA.out.symm, K3.out⟩
        · go_wp2_with fail
          (with_reducible refine (C3.out _ K3.out).mono ?_)
          rintro e w4 ⟨rfl, hk4⟩
          have HI4 := Lib.hid (HI3.out.kept hk4)
          have K4 := Lib.hid (In.kW HI4.out)
          clear t0 t1 t2 t3 t4 t5 hk4
          obtain ⟨t0, t1, t2, t3, t4, t5⟩ := (HI4.out.mem List.mem_cons_self).cells6
          cases b3
          · go_wp2_with fail
            (with_reducible refine (C4.out _).mono ?_)
            rintro e w5 ⟨rfl, hk5⟩
            have HI5 := Lib.hid (HI4.out.kept hk5)
            have K5 := Lib.hid (In.kW HI5.out)
            clear t0 t1 t2 t3 t4 t5 hk5
            obtain ⟨t0, t1, t2, t3, t4, t5⟩ := (HI5.out.mem List.mem_cons_self).cells6
            cases b4
            · have HA := Lib.hid (show R = V by rw [HR1.out]; simp)
              go_wp2_with fail
              (with_reducible refine (C5.out _ K5.out (by intro h; cases h)).mono ?_)
              rintro e w6 ⟨rfl, hk6⟩
              have K6 := Lib.hid (K5.out.trans hk6)
              clear hk6
              go_wp2_with fail
              go_ret
              exact ⟨ret_int HA.out.symm, K6.out⟩
            · by_cases h64 : 64 ≤ dep
              · have HA := Lib.hid (show R = 5 by rw [HR1.out, decide_eq_true h64]; simp)
                have h64i : (64 : Int) ≤ (dep : Int) := by omega
                go_wp2_with fail
                go_ret
                exact ⟨ret_int HA.out.symm, K5.out⟩
              · have HA := Lib.hid (show R = V by rw [HR1.out, decide_eq_false h64]; simp)
                have h64i : ¬ (64 : Int) ≤ (dep : Int) := by omega
                go_wp2_with fail
                (with_reducible refine (C5.out _ K5.out (by intro h; omega)).mono ?_)
                rintro e w6 ⟨rfl, hk6⟩
                have K6 := Lib.hid (K5.out.trans hk6)
                clear hk6
                go_wp2_with fail
                go_ret
                exact ⟨ret_int HA.out.symm, K6.out⟩
          · have HA := Lib.hid (show R = 6 by rw [HR1.out]; simp)
            go_wp2_with fail
            go_ret
            exact ⟨ret_int HA.out.symm, K4.out⟩

theorem saneIn_any (P : Nat → Prop) (N : Nat) : ∀ (x : Ob), SizeOf.sizeOf x ≤ N → SaneC P x := by
  induction N with
  | zero =>
    intro x hN
    cases x; simp at hN
  | succ N ih =>
    intro x hN
    exact saneIn_step P x (fun z hz => ih z (by have := sizeOf_l hz; omega)) (fun e he => ih e.2 (by have := sizeOf_d he; omega))

/-- Sane, of any object. -/
theorem SaneW_any (P : Nat → Prop) (x : Ob) (h : Hd) (w : World) (hl : Lies (Cel P w) x h) :
    Calls Tryz.prog 38 #[objV x h] w fun e w' => e = .returned (.int .i64 (x.sane 0)) ∧ Kept w w' := by
  have FX := fun w' (k : Kept w w') => saneIn_any P _ x (Nat.le_refl _) h 0 w' (hl.kept k) (by omega)
  obtain ⟨C, hC⟩ : ∃ C, C = x.sane 0 := ⟨_, rfl⟩
  rw [← hC] at FX ⊢
  unfold objV at FX ⊢
  simp only [Int.natCast_zero] at FX
  have FX := Lib.hid FX
  clear hC hl
  go_enter Tryz.func38, Tryz.ntmps38
  go_wp2_with fail
  (with_reducible refine (FX.out _ ((Kept.refl w).alloc _ _)).mono ?_)
  rintro e w1 ⟨rfl, hk1⟩
  have K1 := Lib.hid (((Kept.refl w).alloc _ _).trans hk1)
  clear hk1
  go_wp2_with fail
  go_ret
  exact ⟨rfl, K1.out⟩

end Go.Proofs.YtkpagahnmbchjaaGreatDoor
