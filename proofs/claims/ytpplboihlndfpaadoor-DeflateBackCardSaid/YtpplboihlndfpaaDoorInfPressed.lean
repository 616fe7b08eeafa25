/-
  Symbols up to the one that ends them.
-/
import Derived.Test.YtpplboihlndfpaaDoorInfAgain
import Derived.Test.YtpplboihlndfpaaDoorInfStored
namespace Go.Proofs.YtpplboihlndfpaaDoor
open Go.RowKit Ix
set_option linter.unusedSimpArgs false
set_option linter.unusedVariables false

theorem symGo_lt (L : List Nat) (B : List UInt8) : ∀ k n c t s t', symGo L B k n c t = .ok (s, t') → t < t' := by
  intro k
  induction k with
  | zero => intro n c t s t' h; cases h
  | succ k ih =>
    intro n c t s t' h
    rw [symGo_step] at h
    split at h
    · split at h
      · injection h with h; injection h with h1 h2; omega
      · have := ih _ _ _ _ _ h; omega
    · cases h
theorem sym_lt {L : List Nat} {B : List UInt8} {t s t' : Nat} (h : sym L B t = .ok (s, t')) : t < t' := symGo_lt L B _ _ _ _ _ _ h
theorem spanV_ge {B : List UInt8} {s e t v t' : Nat} (h : spanV B s e t = .ok (v, t')) : t ≤ t' := by
  unfold spanV at h
  split at h
  · injection h with h; injection h with h1 h2; omega
  · cases h
theorem lenV_ge {B : List UInt8} {s t v t' : Nat} (h : lenV B s t = .ok (v, t')) : t ≤ t' ∧ (s ≤ 285 → v ≤ 8589934592) := by
  unfold lenV at h
  split at h
  · injection h with h; injection h with h1 h2; omega
  · split at h
    · cases h
    · rename_i hr
      injection h with h; injection h with h1 h2
      refine ⟨by have := spanV_ge hr; omega, fun hs => ?_⟩
      have := spanV_le (s := s - 257) (by omega) (by decide) hr
      omega
theorem distV_ge {D : List Nat} {B : List UInt8} {t v t' : Nat} (h : distV D B t = .ok (v, t')) : t ≤ t' ∧ 1 ≤ v ∧ v ≤ 8589934592 := by
  unfold distV at h
  split at h
  · cases h
  · rename_i hr
    split at h
    · cases h
    · split at h
      · cases h
      · rename_i h29 _ _ _ hr2
        injection h with h; injection h with h1 h2
        have a1 := sym_lt hr
        have a2 := spanV_ge hr2
        have a3 := spanV_le (by omega) (by decide) hr2
        omega

theorem press_put {S D : List Nat} {B : List UInt8} {f t s t' : Nat} {out : List UInt8} (h : sym S B t = .ok (s, t')) (h1 : s < 256) : (∀ k, putV' out (UInt8.ofNat s) = .error k → pressGo S D B (f + 1) t out = .error k) ∧ ∀ o, putV' out (UInt8.ofNat s) = .ok o → pressGo S D B (f + 1) t out = pressGo S D B f t' o := by
  constructor
  · intro k hk; rw [pressGo, h]; show (if s < 256 then _ else _) = _; rw [if_pos h1, hk]
  · intro o hk; rw [pressGo, h]; show (if s < 256 then _ else _) = _; rw [if_pos h1, hk]
theorem press_end {S D : List Nat} {B : List UInt8} {f t t' : Nat} {out : List UInt8} (h : sym S B t = .ok (256, t')) : pressGo S D B (f + 1) t out = .ok (out, t') := by
  rw [pressGo, h]; rfl
theorem press_no {S D : List Nat} {B : List UInt8} {f t : Nat} {k : Int} {out : List UInt8} (h : sym S B t = .error k) : pressGo S D B (f + 1) t out = .error k := by
  rw [pressGo, h]
theorem press_big {S D : List Nat} {B : List UInt8} {f t s t' : Nat} {out : List UInt8} (h : sym S B t = .ok (s, t')) (h1 : 285 < s) : pressGo S D B (f + 1) t out = .error 3 := by
  rw [pressGo, h]; show (if s < 256 then _ else _) = _; rw [if_neg (by omega), if_neg (by omega), if_pos h1]
theorem press_len {S D : List Nat} {B : List UInt8} {f t s t' : Nat} {out : List UInt8} (h : sym S B t = .ok (s, t')) (h1 : 256 < s) (h2 : s ≤ 285) :
    (∀ k, lenV B s t' = .error k → pressGo S D B (f + 1) t out = .error k) ∧ ∀ n t2, lenV B s t' = .ok (n, t2) →
      (∀ k, distV D B t2 = .error k → pressGo S D B (f + 1) t out = .error k) ∧ ∀ back t3, distV D B t2 = .ok (back, t3) →
        (∀ k, againV n back out = .error k → pressGo S D B (f + 1) t out = .error k) ∧ ∀ o, againV n back out = .ok o → pressGo S D B (f + 1) t out = pressGo S D B f t3 o := by
  have g1 : ¬ s < 256 := by omega
  have g2 : ¬ s = 256 := by omega
  have g3 : ¬ 285 < s := by omega
  refine ⟨fun k hk => ?_, fun n t2 h3 => ⟨fun k hk => ?_, fun back t3 h4 => ⟨fun k hk => ?_, fun o hk => ?_⟩⟩⟩
  · rw [pressGo]; simp only [h, if_neg g1, if_neg g2, if_neg g3, hk]
  · rw [pressGo]; simp only [h, if_neg g1, if_neg g2, if_neg g3, h3, hk]
  · rw [pressGo]; simp only [h, if_neg g1, if_neg g2, if_neg g3, h3, h4, hk]
  · rw [pressGo]; simp only [h, if_neg g1, if_neg g2, if_neg g3, h3, h4, hk]

/-- A tree that bytes of one's own leave as it was. -/
theorem Tree.gr {w w' : World} {fp : Nat → Prop} {tb b : Nat} {L : List Nat} {v v' : Value} (h : Tree w fp tb L) (g : Gr w b v w' v') (hb : ¬ fp b) (hv : ∀ j, fp j → v.ownBlock ≠ some j) : Tree w' fp tb L :=
  h.move g.size fun j hj => g.block j (h.lt j hj) (fun e => hb (e ▸ hj)) (hv j hj)

set_option maxRecDepth 100000 in
set_option maxHeartbeats 4000000 in
theorem pressed_any (S D : List Nat) (fS fD : Nat → Prop) (ts td F : Nat) {w : World} {B0 b : Nat} {p : Option Addr} {c : Nat} {B : List UInt8} {t : Nat} {v gv : Value} {out : List UInt8} (h : Ou w B0 b p c B t v out gv) (h8 : t ≤ 8 * B.length) (hB : B.length ≤ 1099511627776)
    (hS : Tree w fS ts S) (hD : Tree w fD td D) (nS : ¬ fS b) (nD : ¬ fD b) (vS : ∀ j, fS j → v.ownBlock ≠ some j) (vD : ∀ j, fD j → v.ownBlock ≠ some j) (lS : S.length ≤ 65536) (lD : D.length ≤ 65536) (hF : 8 * B.length + 1 - t ≤ F) :
    Calls Tryd.prog 79 #[.pointer (some ⟨b, 0, none⟩), .agg #[.pointer (some ⟨ts, 0, none⟩), .pointer (some ⟨td, 0, none⟩)]] w (BlkA w B0 b p c B v gv (pressGo S D B F t out)) := by
  have hp := run_thrown
  have HO := Lib.hid h
  have HLOW := Lib.hid h.low
  have HBL := Lib.hid h.bi.blk.lt
  have hbl := h.bi.blk.lt
  have HVL := Lib.hid h.own.lt
  have HW1 := Lib.hid (show Kept w (w.alloc (.cells #[.pointer (some ⟨ts, 0, none⟩), .pointer (some ⟨td, 0, none⟩)] 114)) from (Kept.refl w).allocO _)
  have HTB := Lib.hid (Blk.fresh w #[.pointer (some ⟨ts, 0, none⟩), .pointer (some ⟨td, 0, none⟩)] 114)
  have HS := Lib.hid (hS.kept HW1.out)
  have HD := Lib.hid (hD.kept HW1.out)
  have NS := Lib.hid (And.intro nS vS)
  have ND := Lib.hid (And.intro nD vD)
  clear h hS hD nS nD vS vD
  go_enter Tryd.func79, Tryd.ntmps79
  go_wp2_with fail
  obtain ⟨W1, hW1⟩ : ∃ W1, W1 = w.alloc (.cells #[.pointer (some ⟨ts, 0, none⟩), .pointer (some ⟨td, 0, none⟩)] 114) := ⟨_, rfl⟩
  rw [← hW1] at HW1 HTB HS HD ⊢
  clear hW1
  go_loopg [4] (8 * B.length + 1 - t) (fun k x wr => ∃ (f tt : Nat) (o : List UInt8) (v1 : Value), k = 8 * B.length + 1 - tt ∧ tt ≤ 8 * B.length ∧ 8 * B.length + 1 - tt ≤ f ∧ Ou wr B0 b p c B tt v1 o gv ∧ Gr W1 b v wr v1 ∧ Hid (pressGo S D B f tt o = pressGo S D B F t out))
  case atStart => exact ⟨F, t, out, v, rfl, h8, hF, HO.out.kept HW1.out, Gr.refl _ _ _, Lib.hid rfl⟩
  case round =>
    obtain ⟨f0, tt, o, v1, hk0, htt, hf, ho1, hg1, HP⟩ := hrel
    obtain ⟨f, rfl⟩ : ∃ f, f0 = f + 1 := ⟨f0 - 1, by omega⟩
    have HO1 := Lib.hid ho1
    have HG1 := Lib.hid hg1
    have HGW := Lib.hid ((Gr.ofKept HW1.out : Gr w b v W1 v).trans hg1)
    have SY := Lib.hid (fun w' (k : Kept wr w') => symbol_any S fS ts (ho1.bi.kept k) htt hB ((HS.out.gr hg1 NS.out.1 NS.out.2).kept k) NS.out.1 lS)
    have HTB1 := Lib.hid (show Blk wr w.heap.size #[.pointer (some ⟨ts, 0, none⟩), .pointer (some ⟨td, 0, none⟩)] 114 from (hg1.block _ HTB.out.lt (by omega) (fun e => by have := (HVL.out _ e).2; omega)).trans HTB.out)
    obtain ⟨t0, t1⟩ := HTB1.out.cells2
    clear ho1 hg1
    go_wp2_with fail
    refine wp_region_any (by kernel_rfl) ?_
    change wpAny _ _ _ _ _ _ _ (World.drew _)
    refine wpAny_take (i := 0) (v := ?_) rfl (by kernel_rfl) (by kernel_rfl) (by kernel_rfl) (fun _ _ _ h => h) (Or.inl ⟨by rfl, (by intro w; go_simp; try with_reducible rfl)⟩) ?_
    refine wpAny_take (i := 1) (v := ?_) rfl (by kernel_rfl) (by kernel_rfl) (by kernel_rfl) (fun _ _ _ h => h) (Or.inl ⟨by rfl, (by intro w; go_simp; try with_reducible rfl)⟩) ?_
    refine wpAny_take (i := 2) (v := ?_) rfl (by kernel_rfl) (by kernel_rfl) (by kernel_rfl) (fun _ _ _ h => h) (Or.inl ⟨by rfl, (by intro w; go_simp; try with_reducible rfl)⟩) ?_
    refine wpAny_take (i := 3) (v := ?_) rfl (by kernel_rfl) (by kernel_rfl) (by kernel_rfl) (fun _ _ _ h => h) (Or.inl ⟨by rfl, (by intro w; go_simp; try with_reducible rfl)⟩) ?_
    refine wpAny_ready (rs := [4]) (by kernel_rfl) (by simp) ?_
    refine AllReady.cons rfl (fun K hK => ?_) AllReady.nil
    go_simp
    refine hK _ _ ?_
    clear hK K
    refine wpAny_ready (rs := [5]) (by kernel_rfl) (by simp) ?_
    refine AllReady.cons rfl (fun K hK => ?_) AllReady.nil
    go_simp
    go_wp2_with fail
    (with_reducible refine (SY.out _ (Kept.refl wr).drew).mono ?_)
    intro e w2 hs
    rcases hs.cases with ⟨k', hr, rfl, hg⟩ | ⟨s, t', hr, rfl, hb2, ht2⟩
    · have HR := Lib.hid (show pressGo S D B F t out = .error k' by rw [← HP.out, press_no hr])
      clear hs hr
      go_wp2_with fail
      refine ⟨rfl, ?_⟩
      unfold BlkA
      rw [HR.out]
      exact ⟨rfl, (HGW.out.below HLOW.out (Nat.le_of_lt HBL.out)).trans ((Below.drew (Below.refl _ _)).trans (below_gb hg (show b ≤ wr.heap.size from Nat.le_of_lt HO1.out.bi.blk.lt)))⟩
    · have hlt := sym_lt hr
      have HSY := Lib.hid hr
      have hdr : Kept wr wr.drew := (Kept.refl wr).drew
      have HO2 := Lib.hid ((HO1.out.kept hdr).bits hb2)
      have HG2 := Lib.hid (HG1.out.trans ((Gr.ofKept hdr).trans (Gr.ofGb hb2.2)))
      clear hs hr hb2 hdr t0 t1
      go_wp2_with fail
      refine wpAny_take (i := 6) (v := ?_) rfl (by kernel_rfl) (by kernel_rfl) (by kernel_rfl) (fun _ _ _ h => h) (Or.inl ⟨by rfl, (by intro w; go_simp; try with_reducible rfl)⟩) ?_
      refine wpAny_done (by kernel_rfl) ?_ _
      have HGW2 := Lib.hid ((Gr.ofKept HW1.out : Gr w b v W1 v).trans HG2.out)
      by_cases h1 : s < 256
      · obtain ⟨q1, q2⟩ := press_put (S := S) (D := D) (f := f) (out := o) HSY.out h1
        have Q1 := Lib.hid q1
        have Q2 := Lib.hid q2
        have i1 : (s : Int) < 256 := by omega
        have PU := Lib.hid (show Calls Tryd.prog 107 #[.pointer (some ⟨b, 0, none⟩), .int .u8 (s : Int)] w2 (PutA w2 B0 b p c B t' v1 gv (putV' o (UInt8.ofNat s))) by
          have z := put_any HO2.out (UInt8.ofNat s)
          rw [UInt8.toNat_ofNat', Nat.mod_eq_of_lt (by omega)] at z
          exact z)
        clear q1 q2 h1
        go_wp2_with fail
        (with_reducible refine PU.out.mono ?_)
        intro e w3 hput
        rcases hput.cases with ⟨k', hr, rfl, hg⟩ | ⟨o', v', hr, rfl, ho, hg⟩
        · have HR := Lib.hid (show pressGo S D B F t out = .error k' by rw [← HP.out, Q1.out _ hr])
          clear hput hr
          go_wp2_with fail
          refine ⟨rfl, ?_⟩
          unfold BlkA
          rw [HR.out]
          exact ⟨rfl, (HGW2.out.below HLOW.out (Nat.le_of_lt HBL.out)).trans hg⟩
        · have HR := Lib.hid (show pressGo S D B f t' o' = pressGo S D B F t out by rw [← HP.out, Q2.out _ hr])
          have HO3 := Lib.hid ho
          have HG3 := Lib.hid (HG2.out.trans hg)
          clear hput hr ho hg
          go_wp2_with fail
          go_roundg (8 * B.length + 1 - t')
          case measure => omega
          case rel => exact ⟨f, t', o', v', rfl, ht2, by omega, HO3.out, HG3.out, HR⟩
      by_cases h2 : s = 256
      · subst h2
        have HR := Lib.hid (show pressGo S D B F t out = .ok (o, t') by rw [← HP.out, press_end HSY.out])
        go_wp2_with fail
        refine bodyPost_ret (results_none rfl _ _ _) rfl ?_
        unfold BlkA
        rw [HR.out]
        exact ⟨rfl, ht2, v1, HO2.out, HGW2.out⟩
      by_cases h3 : 285 < s
      · have HR := Lib.hid (show pressGo S D B F t out = .error 3 by rw [← HP.out, press_big HSY.out h3])
        have i1 : ¬ (s : Int) < 256 := by omega
        have i2 : ((s : Int) == 256) = false := by rw [beq_eq_false_iff_ne]; omega
        have i3 : (285 : Int) < (s : Int) := by omega
        clear h1 h2 h3
        go_wp2_with fail
        refine ⟨rfl, ?_⟩
        unfold BlkA
        rw [HR.out]
        exact ⟨rfl, HGW2.out.below HLOW.out (Nat.le_of_lt HBL.out)⟩
      have i1 : ¬ (s : Int) < 256 := by omega
      have i2 : ((s : Int) == 256) = false := by rw [beq_eq_false_iff_ne]; omega
      have i3 : ¬ (285 : Int) < (s : Int) := by omega
      obtain ⟨q1, q2⟩ := press_len (S := S) (D := D) (f := f) (out := o) HSY.out (by omega) (show s ≤ 285 by omega)
      have Q1 := Lib.hid q1
      have Q2 := Lib.hid q2
      have LE := Lib.hid (length_any s (by omega) (by omega) HO2.out.bi ht2 hB)
      have HS285 := Lib.hid (show s ≤ 285 by omega)
      clear q1 q2 h1 h2 h3
      go_wp2_with fail
      (with_reducible refine LE.out.mono ?_)
      intro e w3 hs
      rcases hs.cases with ⟨k', hr, rfl, hg⟩ | ⟨n, t3, hr, rfl, hb3, ht3⟩
      · have HR := Lib.hid (show pressGo S D B F t out = .error k' by rw [← HP.out, Q1.out _ hr])
        clear hs hr
        go_wp2_with fail
        refine ⟨rfl, ?_⟩
        unfold BlkA
        rw [HR.out]
        exact ⟨rfl, (HGW2.out.trans (Gr.ofGb hg)).below HLOW.out (Nat.le_of_lt HBL.out)⟩
      · obtain ⟨a1, a2⟩ := lenV_ge hr
        have hn := a2 HS285.out
        obtain ⟨q1, q2⟩ := Q2.out _ _ hr
        have Q3 := Lib.hid q1
        have Q4 := Lib.hid q2
        have HO3 := Lib.hid (HO2.out.bits hb3)
        have HG3 := Lib.hid (HG2.out.trans (Gr.ofGb hb3.2))
        have HGW3 := Lib.hid (HGW2.out.trans (Gr.ofGb hb3.2))
        have DI := Lib.hid (distance_any D fD td hb3.1 ht3 hB (HD.out.gr (HG2.out.trans (Gr.ofGb hb3.2)) ND.out.1 ND.out.2) ND.out.1 lD)
        have HTB3 := Lib.hid (show Blk w3 w.heap.size #[.pointer (some ⟨ts, 0, none⟩), .pointer (some ⟨td, 0, none⟩)] 114 from (HG3.out.block _ HTB.out.lt (by omega) (fun e => by have := (HVL.out _ e).2; omega)).trans HTB.out)
        obtain ⟨t0, t1⟩ := HTB3.out.cells2
        clear hs hr hb3 q1 q2 a2
        go_wp2_with fail
        (with_reducible refine DI.out.mono ?_)
        intro e w4 hs
        rcases hs.cases with ⟨k', hr, rfl, hg⟩ | ⟨back, t4, hr, rfl, hb4, ht4⟩
        · have HR := Lib.hid (show pressGo S D B F t out = .error k' by rw [← HP.out, Q3.out _ hr])
          clear hs hr
          go_wp2_with fail
          refine ⟨rfl, ?_⟩
          unfold BlkA
          rw [HR.out]
          exact ⟨rfl, (HGW3.out.trans (Gr.ofGb hg)).below HLOW.out (Nat.le_of_lt HBL.out)⟩
        · obtain ⟨a3, a4, a5⟩ := distV_ge hr
          obtain ⟨q1, q2⟩ := Q4.out _ _ hr
          have Q5 := Lib.hid q1
          have Q6 := Lib.hid q2
          have AG := Lib.hid (again_any n back (HO3.out.bits hb4) hn a4 a5)
          have HG4 := Lib.hid (HG3.out.trans (Gr.ofGb hb4.2))
          have HGW4 := Lib.hid (HGW3.out.trans (Gr.ofGb hb4.2))
          clear hs hr hb4 q1 q2 t0 t1
          go_wp2_with fail
          (with_reducible refine AG.out.mono ?_)
          intro e w5 hput
          rcases hput.cases with ⟨k', hr, rfl, hg⟩ | ⟨o', v', hr, rfl, ho, hg⟩
          · have HR := Lib.hid (show pressGo S D B F t out = .error k' by rw [← HP.out, Q5.out _ hr])
            clear hput hr
            go_wp2_with fail
            refine ⟨rfl, ?_⟩
            unfold BlkA
            rw [HR.out]
            exact ⟨rfl, (HGW4.out.below HLOW.out (Nat.le_of_lt HBL.out)).trans hg⟩
          · have HR := Lib.hid (show pressGo S D B f t4 o' = pressGo S D B F t out by rw [← HP.out, Q6.out _ hr])
            have HO5 := Lib.hid ho
            have HG5 := Lib.hid (HG4.out.trans hg)
            clear hput hr ho hg
            go_wp2_with fail
            go_roundg (8 * B.length + 1 - t4)
            case measure => omega
            case rel => exact ⟨f, t4, o', v', rfl, ht4, by omega, HO5.out, HG5.out, HR⟩

end Go.Proofs.YtpplboihlndfpaaDoor
