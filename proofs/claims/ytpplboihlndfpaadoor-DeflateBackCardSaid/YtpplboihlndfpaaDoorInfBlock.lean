/-
  One block.
-/
import Derived.Test.YtpplboihlndfpaaDoorInfOwnTrees
import Derived.Test.YtpplboihlndfpaaDoorDefMaths
namespace Go.Proofs.YtpplboihlndfpaaDoor
open Go.RowKit Ix
set_option linter.unusedSimpArgs false
set_option linter.unusedVariables false

/-- What a block leaves. -/
def BlockA (w : World) (B0 b : Nat) (p : Option Addr) (c : Nat) (B : List UInt8) (r : Except Int (Bool × List UInt8 × Nat)) (e : Ending) (w' : World) : Prop := match r with
  | .error k => e = .panicked (thrown k) ∧ Below b w w'
  | .ok (last, o, t') => e = .returned (.bool last) ∧ t' ≤ 8 * B.length ∧ ∃ v' gv', Ou w' B0 b p c B t' v' o gv' ∧ Gv w' b v' gv' ∧ Below b w w'
theorem BlockA.cases {w : World} {B0 b : Nat} {p : Option Addr} {c : Nat} {B : List UInt8} {r : Except Int (Bool × List UInt8 × Nat)} {e : Ending} {w' : World} (h : BlockA w B0 b p c B r e w') :
    (∃ k, r = .error k ∧ e = .panicked (thrown k) ∧ Below b w w') ∨ ∃ last o t' v' gv', r = .ok (last, o, t') ∧ e = .returned (.bool last) ∧ t' ≤ 8 * B.length ∧ Ou w' B0 b p c B t' v' o gv' ∧ Gv w' b v' gv' ∧ Below b w w' := by
  unfold BlockA at h
  rcases r with k | ⟨last, o, t'⟩
  · exact .inl ⟨k, rfl, h⟩
  · obtain ⟨h1, h2, v', gv', h3, h4, h5⟩ := h; exact .inr ⟨last, o, t', v', gv', rfl, h1, h2, h3, h4, h5⟩
/-- Behind what stands in it. -/
theorem block_end {w w2 w' : World} {B0 b : Nat} {p : Option Addr} {c : Nat} {B : List UInt8} {v gv : Value} {last : Bool} {r : Except Int (List UInt8 × Nat)} {q : Except Int (Bool × List UInt8 × Nat)} (hq : q = lastV last r) (hb : Below b w w2) (hg : Gv w2 b v gv) {o : List UInt8} {t' : Nat} {v' : Value} (hr : r = .ok (o, t')) (ht : t' ≤ 8 * B.length)
    (ho : Ou w' B0 b p c B t' v' o gv) (gr : Gr w2 b v w' v') (hv : ∀ k, v.ownBlock = some k → b ≤ k) (hbs : b ≤ w2.heap.size) : BlockA w B0 b p c B q (.returned (.bool last)) w' := by
  subst hq hr
  exact ⟨rfl, ht, v', gv, ho, hg.gr gr, hb.trans (gr.below hv hbs)⟩
theorem block_no {w w' : World} {B0 b : Nat} {p : Option Addr} {c : Nat} {B : List UInt8} {last : Bool} {r : Except Int (List UInt8 × Nat)} {q : Except Int (Bool × List UInt8 × Nat)} {k : Int} (hq : q = lastV last r) (hr : r = .error k) (hb : Below b w w') : BlockA w B0 b p c B q (.panicked (thrown k)) w' := by
  subst hq hr
  exact ⟨rfl, hb⟩

set_option maxRecDepth 100000 in
theorem block_any {w : World} {B0 b : Nat} {p : Option Addr} {c : Nat} {B : List UInt8} {t : Nat} {v gv : Value} {out : List UInt8} (h : Ou w B0 b p c B t v out gv) (hg : Gv w b v gv) (h8 : t ≤ 8 * B.length) (hB : B.length ≤ 1099511627776) (ho : Ordd w) (hob : 0 < b) :
    Calls Tryd.prog 39 #[.pointer (some ⟨b, 0, none⟩)] w (BlockA w B0 b p c B (blockV B t out)) := by
  have hp := run_thrown
  have HO := Lib.hid h
  have HG := Lib.hid hg
  have HBL := Lib.hid (Nat.le_of_lt h.bi.blk.lt)
  have HOR := Lib.hid ho
  have HOB := Lib.hid hob
  clear ho hob
  by_cases ht : t < 8 * B.length
  · have BO := Lib.hid (bit_ok h.bi ht hB)
    have hu2 := bitAt_lt B t
    clear h hg
    go_enter Tryd.func39, Tryd.ntmps39
    go_wp2_with fail
    (with_reducible refine BO.out.mono ?_)
    rintro e w1 ⟨rfl, hb1⟩
    have NA := Lib.hid (number_lit 2 2 rfl (by decide) hb1.1 (by omega) hB)
    have HO1 := Lib.hid (HO.out.bits hb1)
    have HG1 := Lib.hid hb1.2
    clear hb1
    go_wp2_with fail
    (with_reducible refine NA.out.mono ?_)
    intro e w2 hs
    rcases hs.cases with ⟨k', hr, rfl, hgb⟩ | ⟨n, t2, hr, rfl, hb2, ht2⟩
    · have HR := Lib.hid (show blockV B t out = .error k' by
        unfold numV at hr
        split at hr
        · cases hr
        · injection hr with hr; subst hr
          unfold blockV; rw [if_neg (by omega)])
      clear hs hr
      go_wp2_with fail
      refine ⟨rfl, ?_⟩
      unfold BlockA
      rw [HR.out]
      exact ⟨rfl, below_gb (gbT HG1.out hgb) HBL.out⟩
    · obtain ⟨hn0, rfl, hn1⟩ : numAt B 2 (t + 1) = n ∧ t2 = t + 3 ∧ t + 3 ≤ 8 * B.length := by
        unfold numV at hr
        split at hr
        · rename_i hle
          injection hr with hr; injection hr with h1 h2
          exact ⟨h1, by omega, by omega⟩
        · cases hr
      have hn4 := numAt_lt B (t + 1) 2
      rw [hn0] at hn4
      have HV := Lib.hid (show blockV B t out = lastV (bitAt B t == 1) (kindV n B (t + 3) out) by
        unfold blockV; rw [if_pos hn1, hn0])
      have HO2 := Lib.hid (HO1.out.bits hb2)
      have HG2 := Lib.hid (gbT HG1.out hb2.2)
      have HGv := Lib.hid (HG.out.gr (Gr.ofGb HG2.out))
      have HBW := Lib.hid (below_gb HG2.out HBL.out)
      have HB2 := Lib.hid (Nat.le_of_lt HO2.out.bi.blk.lt)
      have hul : ((bitAt B t : Int) == 1) = (bitAt B t == 1) := by
        rcases (show bitAt B t = 0 ∨ bitAt B t = 1 by omega) with e | e <;> (rw [e]; rfl)
      have HUL := Lib.hid hul
      clear hs hr hb2 hn0 hul
      rcases (show n = 0 ∨ n = 1 ∨ n = 2 ∨ n = 3 by omega) with rfl | rfl | rfl | rfl
      · have HV2 := Lib.hid (show blockV B t out = lastV (bitAt B t == 1) (storedV B (t + 3) out) from HV.out)
        have ST := Lib.hid (stored_any HO2.out ht2 hB)
        go_wp2_with fail
        (with_reducible refine ST.out.mono ?_)
        intro e w3 hs
        rcases hs.cases with ⟨k', hr, rfl, hbb⟩ | ⟨o, t', v', hr, rfl, ht', ho', hg'⟩
        · have HR := Lib.hid hr
          clear hs hr
          go_wp2_with fail
          exact ⟨rfl, block_no HV2.out HR.out (HBW.out.trans hbb)⟩
        · have HR := Lib.hid hr
          have HO3 := Lib.hid ho'
          have HG3 := Lib.hid hg'
          clear hs hr ho' hg'
          go_wp2_with fail
          go_ret
          rw [HUL.out]
          exact block_end HV2.out HBW.out HGv.out HR.out ht' HO3.out HG3.out HO2.out.low HB2.out
      · have HV2 := Lib.hid (show blockV B t out = lastV (bitAt B t == 1) (pressGo fixS fixD B (8 * B.length + 1) (t + 3) out) from HV.out)
        have GT := Lib.hid (givenTrees_any HO2.out HGv.out)
        go_wp2_with fail
        (with_reducible refine GT.out.mono ?_)
        rintro e w3 ⟨ts, td, f, gv', rfl, ho3, hf3, hts, htd, hgv3, hgr3⟩
        have PR := Lib.hid (pressed_any fixS fixD f f ts td (8 * B.length + 1) ho3 ht2 hB hts htd (fun e => by have := (hf3 b e).1; omega) (fun e => by have := (hf3 b e).1; omega) (fun j hj => (hf3 j hj).2) (fun j hj => (hf3 j hj).2) (by decide) (by decide) (by omega))
        have HO3 := Lib.hid ho3
        have HGv3 := Lib.hid hgv3
        have HB3 := Lib.hid (Nat.le_of_lt ho3.bi.blk.lt)
        have HBW3 := Lib.hid (HBW.out.trans (hgr3.below HO2.out.low HB2.out))
        clear ho3 hts htd hgv3 hgr3 hf3
        go_wp2_with fail
        (with_reducible refine PR.out.mono ?_)
        intro e w4 hs
        rcases hs.cases with ⟨k', hr, rfl, hbb⟩ | ⟨o, t', v', hr, rfl, ht', ho', hg'⟩
        · have HR := Lib.hid hr
          clear hs hr
          go_wp2_with fail
          exact ⟨rfl, block_no HV2.out HR.out (HBW3.out.trans hbb)⟩
        · have HR := Lib.hid hr
          have HO4 := Lib.hid ho'
          have HG4 := Lib.hid hg'
          clear hs hr ho' hg'
          go_wp2_with fail
          go_ret
          rw [HUL.out]
          exact block_end HV2.out HBW3.out HGv3.out HR.out ht' HO4.out HG4.out HO3.out.low HB3.out
      · have HV2 := Lib.hid (show blockV B t out = lastV (bitAt B t == 1) (ownBlkV B out (ownV B (t + 3))) from HV.out)
        have OT := Lib.hid (ownTrees_any HO2.out ht2 hB (HOR.out.gb HG2.out HOB.out) HOB.out)
        go_wp2_with fail
        (with_reducible refine OT.out.mono ?_)
        intro e w3 hs
        rcases hs.cases with ⟨k', hr, rfl, hg3⟩ | ⟨S, D, t3, ts, td, f, hr, rfl, ho3, hf3, hts, htd, hg3, ht3⟩
        · have HR := Lib.hid (show ownBlkV B out (ownV B (t + 3)) = .error k' by rw [hr]; rfl)
          have HBB := Lib.hid (below_gb hg3 HB2.out)
          clear hs hr hg3
          go_wp2_with fail
          exact ⟨rfl, block_no HV2.out HR.out (HBW.out.trans HBB.out)⟩
        · obtain ⟨o1, o2, o3, o4, o5, o6, o7, o8, o9, o10⟩ := ownV_ok hr
          have HV3 := Lib.hid (show blockV B t out = lastV (bitAt B t == 1) (pressGo S D B (8 * B.length + 1) t3 out) by rw [HV2.out, hr]; rfl)
          have hgr3 : Gr w2 b v w3 v := Gr.ofGb hg3
          have PR := Lib.hid (pressed_any S D f f ts td (8 * B.length + 1) ho3 ht3 hB hts htd (fun e => by have := (hf3 b e).1; omega) (fun e => by have := (hf3 b e).1; omega) (fun j hj => (hf3 j hj).2) (fun j hj => (hf3 j hj).2) (by omega) (by omega) (by omega))
          have HO3 := Lib.hid ho3
          have HGv3 := Lib.hid (HGv.out.gr hgr3)
          have HB3 := Lib.hid (Nat.le_of_lt ho3.bi.blk.lt)
          have HBW3 := Lib.hid (HBW.out.trans (hgr3.below HO2.out.low HB2.out))
          clear hs hr ho3 hts htd hgr3 hf3 hg3 o1 o2 o3 o4 o5 o6 o7 o8 o9 o10 ht3
          go_wp2_with fail
          (with_reducible refine PR.out.mono ?_)
          intro e w4 hs
          rcases hs.cases with ⟨k', hr, rfl, hbb⟩ | ⟨o, t', v', hr, rfl, ht', ho', hg'⟩
          · have HR := Lib.hid hr
            clear hs hr
            go_wp2_with fail
            exact ⟨rfl, block_no HV3.out HR.out (HBW3.out.trans hbb)⟩
          · have HR := Lib.hid hr
            have HO4 := Lib.hid ho'
            have HG4 := Lib.hid hg'
            clear hs hr ho' hg'
            go_wp2_with fail
            go_ret
            rw [HUL.out]
            exact block_end HV3.out HBW3.out HGv3.out HR.out ht' HO4.out HG4.out HO3.out.low HB3.out
      · have HV2 := Lib.hid (show blockV B t out = lastV (bitAt B t == 1) (.error 3) from HV.out)
        go_wp2_with fail
        exact ⟨rfl, block_no HV2.out rfl HBW.out⟩
  · have BN := Lib.hid (bit_no h.bi (by omega) hB)
    have HR := Lib.hid (show blockV B t out = .error 4 by unfold blockV; rw [if_neg (by omega)])
    clear h hg
    go_enter Tryd.func39, Tryd.ntmps39
    go_wp2_with fail
    (with_reducible refine BN.out.mono ?_)
    rintro e w1 ⟨rfl, hg1⟩
    have HG1 := Lib.hid hg1
    clear hg1
    go_wp2_with fail
    refine ⟨rfl, ?_⟩
    unfold BlockA
    rw [HR.out]
    exact ⟨rfl, below_gb HG1.out HBL.out⟩

end Go.Proofs.YtpplboihlndfpaaDoor
