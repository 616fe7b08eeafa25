/-
  The trees of the kind 1.
-/
import Derived.Test.YtpplboihlndfpaaDoorInfPressed
import Derived.Test.YtpplboihlndfpaaDoorInfTree
import Derived.Test.YtpplboihlndfpaaDoorInfFour
namespace Go.Proofs.YtpplboihlndfpaaDoor
open Go.RowKit Ix
set_option linter.unusedSimpArgs false
set_option linter.unusedVariables false

/-- The trees that were made once, or none so far. -/
def Gv (w : World) (b : Nat) (v gv : Value) : Prop :=
  gv = .pointer none ∨ ∃ (k ts td : Nat) (f : Nat → Prop), gv = .pointer (some ⟨k, 0, none⟩) ∧ (∀ j, f j → b < j ∧ v.ownBlock ≠ some j) ∧ f k ∧ Blk w k #[.pointer (some ⟨ts, 0, none⟩), .pointer (some ⟨td, 0, none⟩)] 114 ∧ Tree w f ts fixS ∧ Tree w f td fixD
theorem Gv.gr {w w' : World} {b : Nat} {v v' gv : Value} (h : Gv w b v gv) (g : Gr w b v w' v') : Gv w' b v' gv := by
  rcases h with h | ⟨k, ts, td, f, h1, h2, h3, h4, h5, h6⟩
  · exact .inl h
  · have hb : ¬ f b := fun e => by have := (h2 b e).1; omega
    have hv : ∀ j, f j → v.ownBlock ≠ some j := fun j hj => (h2 j hj).2
    refine .inr ⟨k, ts, td, f, h1, fun j hj => ⟨(h2 j hj).1, ?_⟩, h3, ?_, h5.gr g hb hv, h6.gr g hb hv⟩
    · rcases g.at' with e | ⟨x, e, hx⟩
      · rw [e]; exact (h2 j hj).2
      · rw [e]; intro e2; injection e2 with e2; have := h5.lt j hj; omega
    · exact (g.block k (h5.lt k h3) (fun e => hb (e ▸ h3)) (hv k h3)).trans h4

theorem treeOf_good (l : List Nat) (ho : (codesV (intsOf l)).isOk = true) (hl : l.length ≤ 65536) (n : Nat) (hn : n = l.length) (p : Option Addr) (c : Nat) (w : World) (h : IntsR w p (intsOf l)) :
    Calls Tryd.prog 113 #[.slice p n c] w fun e w' => ∃ tb, e = .returned (.pointer (some ⟨tb, 0, none⟩)) ∧ Tree w' (fun b => w.heap.size ≤ b ∧ b < w'.heap.size) tb l ∧ Kept w w' := by
  subst hn
  have hlen : (intsOf l).length = l.length := by simp [intsOf]
  have z := treeOf_any (intsOf l) p c w h (by omega)
  rw [hlen] at z
  refine z.mono fun e w' ⟨hk, hr⟩ => ?_
  cases hV : codesV (intsOf l) with
  | error k => rw [hV] at ho; cases ho
  | ok x =>
    rw [hV] at hr
    obtain ⟨tb, he, ht⟩ := hr
    rw [intsOf_nat] at ht
    exact ⟨tb, he, ht, hk⟩
theorem fixS_ok : (codesV (intsOf fixS)).isOk = true := by kernel_rfl
theorem fixD_ok : (codesV (intsOf fixD)).isOk = true := by kernel_rfl
theorem ints5 {W : World} {g : Nat} (h : Arr W g 32 (fun _ => 5) 3) : IntsR W (some ⟨g, 0, none⟩) (intsOf fixD) := by
  intro i hi
  have hi32 : i < 32 := by have : (intsOf fixD).length = 32 := by kernel_rfl
                           omega
  refine ⟨g, 0, rfl, h.lt, ?_⟩
  rw [Nat.zero_add, h.cell i hi32]
  have : intsOf fixD = List.replicate 32 5 := by unfold intsOf fixD; simp
  simp only [this, List.getElem_replicate]

theorem Tree.sub {w : World} {fp f : Nat → Prop} {tb : Nat} {L : List Nat} (h : Tree w fp tb L) (hf : ∀ j, fp j → f j) (hlt : ∀ j, f j → j < w.heap.size) : Tree w f tb L :=
  ⟨hf _ h.here, hlt, h.first, fun n hn => by
    obtain ⟨p, c, h1, h2⟩ := h.slice n hn
    exact ⟨p, c, h1, fun i hi => by
      obtain ⟨g, hp, hg, hc⟩ := h2 i hi
      exact ⟨g, hp, hf g hg, hc⟩⟩⟩
/-- Behind the stores. -/
theorem given_end {w w8 : World} {B0 b : Nat} {p : Option Addr} {c : Nat} {B : List UInt8} {t : Nat} {v gv : Value} {out : List UInt8} {ts td q5 q6 q7 r : Nat} (HO : Ou w B0 b p c B t v out gv) (K8 : Kept w w8) (hr : r = w.heap.size)
    (h5 : r < q5) (h6 : q6 ≤ w8.heap.size) (h7 : r < q7) (T6 : Tree w8 (fun j => q5 ≤ j ∧ j < q6) ts fixS) (T8 : Tree w8 (fun j => q7 ≤ j ∧ j < w8.heap.size) td fixD) (WF : World)
    (hW : WF = ((((w8.setCell ⟨b, 3, none⟩ (.pointer (some ⟨w8.heap.size, 0, none⟩))).setCell ⟨r, 0, none⟩ (.pointer (some ⟨ts, 0, none⟩))).setCell ⟨r, 1, none⟩ (.pointer (some ⟨td, 0, none⟩))).alloc (.cells #[.pointer (some ⟨ts, 0, none⟩), .pointer (some ⟨td, 0, none⟩)] 114))) :
    ∃ (f : Nat → Prop) (gv' : Value), Ou WF B0 b p c B t v out gv' ∧ (∀ j, f j → b < j ∧ v.ownBlock ≠ some j) ∧ Tree WF f ts fixS ∧ Tree WF f td fixD ∧ Gv WF b v gv' ∧ Gr w b v WF v := by
  subst hr
  have hb := HO.bi.blk.lt
  have hlow := HO.bi.low
  have hv := HO.own.lt
  have hsz := Below.size K8
  have h8 : q7 ≤ td ∧ td < w8.heap.size := T8.here
  have HO8 := HO.kept K8
  obtain ⟨S, hS⟩ : ∃ S, S = ((w8.setCell ⟨b, 3, none⟩ (.pointer (some ⟨w8.heap.size, 0, none⟩))).setCell ⟨w.heap.size, 0, none⟩ (.pointer (some ⟨ts, 0, none⟩))).setCell ⟨w.heap.size, 1, none⟩ (.pointer (some ⟨td, 0, none⟩)) := ⟨_, rfl⟩
  rw [← hS] at hW
  have hSs : S.heap.size = w8.heap.size := by rw [hS]; simp
  have hWs : WF.heap.size = w8.heap.size + 1 := by rw [hW]; simp [hSs]
  have key : ∀ j, j < w8.heap.size → j ≠ b → j ≠ w.heap.size → WF.heap[j]? = w8.heap[j]? := by
    intro j hj h1 h2
    rw [hW, Below.heap_alloc S _ j (by omega), hS, Below.heap_setCell _ ⟨w.heap.size, 1, none⟩ _ j h2, Below.heap_setCell _ ⟨w.heap.size, 0, none⟩ _ j h2, Below.heap_setCell _ ⟨b, 3, none⟩ _ j h1]
  have hbk : Blk WF b #[.slice p B.length c, .int .i64 t, v, .pointer (some ⟨w8.heap.size, 0, none⟩)] 70 := by
    have z := HO8.bi.blk.set 3 (.pointer (some ⟨w8.heap.size, 0, none⟩))
    have z2 := ((z.other (k := w.heap.size) (o := 0) (by omega) (.pointer (some ⟨ts, 0, none⟩))).other (k := w.heap.size) (o := 1) (by omega) (.pointer (some ⟨td, 0, none⟩)))
    rw [← hS] at z2
    rw [hW]
    simpa using z2.alloc (.cells #[.pointer (some ⟨ts, 0, none⟩), .pointer (some ⟨td, 0, none⟩)] 114)
  have hvb : ∀ j, v.ownBlock = some j → b < j ∧ j < w.heap.size := fun j e => by have := hv j e; omega
  have hnb : Blk WF w8.heap.size #[.pointer (some ⟨ts, 0, none⟩), .pointer (some ⟨td, 0, none⟩)] 114 := by
    have z := Blk.fresh S #[.pointer (some ⟨ts, 0, none⟩), .pointer (some ⟨td, 0, none⟩)] 114
    rw [hSs, ← hW] at z; exact z
  have hos : WF.os = w.os ∧ WF.tape = w.tape ∧ WF.output = w.output := by
    rw [hW, hS]
    exact ⟨K8.os, K8.tape, K8.output⟩
  have hT6 : Tree WF (fun j => w.heap.size < j ∧ j ≤ w8.heap.size) ts fixS :=
    (T6.move (by omega) fun j (hj : q5 ≤ j ∧ j < q6) => key j (by omega) (by omega) (by omega)).sub (fun j (hj : q5 ≤ j ∧ j < q6) => (show w.heap.size < j ∧ j ≤ w8.heap.size by omega)) fun j (hj : w.heap.size < j ∧ j ≤ w8.heap.size) => by omega
  have hT8 : Tree WF (fun j => w.heap.size < j ∧ j ≤ w8.heap.size) td fixD :=
    (T8.move (by omega) fun j (hj : q7 ≤ j ∧ j < w8.heap.size) => key j (by omega) (by omega) (by omega)).sub (fun j (hj : q7 ≤ j ∧ j < w8.heap.size) => (show w.heap.size < j ∧ j ≤ w8.heap.size by omega)) fun j (hj : w.heap.size < j ∧ j ≤ w8.heap.size) => by omega
  have hf : ∀ j, (w.heap.size < j ∧ j ≤ w8.heap.size) → b < j ∧ v.ownBlock ≠ some j := fun j hj => ⟨by omega, fun e => by have := hvb j e; omega⟩
  refine ⟨fun j => w.heap.size < j ∧ j ≤ w8.heap.size, _, ⟨⟨hbk, fun i hi => ?_, hlow⟩, ?_, HO.len⟩, hf, hT6, hT8, .inr ⟨w8.heap.size, ts, td, _, rfl, hf, ⟨by omega, Nat.le_refl _⟩, hnb, hT6, hT8⟩, ?_⟩
  · obtain ⟨k, o, hp, hk, hc⟩ := HO8.bi.byt i hi
    refine ⟨k, o, hp, hk, ?_⟩
    rw [← hc]
    exact World.cell?_of_block (key k (by omega) (by omega) (by omega))
  · rcases HO8.own.2 with ⟨h1, h2⟩ | ⟨g, cap, cur, h1, h2, h3, h4⟩
    · exact ⟨HO8.own.1, .inl ⟨h1, h2⟩⟩
    · refine ⟨HO8.own.1, .inr ⟨g, cap, cur, h1, h2, ?_, h4⟩⟩
      have hg := hvb g (by rw [h1]; rfl)
      rw [key g (by omega) (by omega) (by omega)]; exact h3
  · refine ⟨hos.1, hos.2.1, hos.2.2, by omega, fun j hj h1 h2 => ?_, .inl rfl⟩
    rw [key j (by omega) h1 (by omega)]
    exact K8.block j hj

set_option maxRecDepth 100000 in
theorem givenTrees_any {w : World} {B0 b : Nat} {p : Option Addr} {c : Nat} {B : List UInt8} {t : Nat} {v gv : Value} {out : List UInt8} (h : Ou w B0 b p c B t v out gv) (hg : Gv w b v gv) :
    Calls Tryd.prog 80 #[.pointer (some ⟨b, 0, none⟩)] w fun e w' => ∃ (ts td : Nat) (f : Nat → Prop) (gv' : Value), e = .returned (.agg #[.pointer (some ⟨ts, 0, none⟩), .pointer (some ⟨td, 0, none⟩)]) ∧
      Ou w' B0 b p c B t v out gv' ∧ (∀ j, f j → b < j ∧ v.ownBlock ≠ some j) ∧ Tree w' f ts fixS ∧ Tree w' f td fixD ∧ Gv w' b v gv' ∧ Gr w b v w' v := by
  obtain ⟨c0, c1, c2, c3⟩ := h.bi.cells
  have hbl := h.bi.blk.lt
  have HO := Lib.hid h
  rcases hg with rfl | ⟨k, ts, td, f, rfl, h2, h3, h4, h5, h6⟩
  · clear h
    go_enter Tryd.func80, Tryd.ntmps80
    go_wp2_with fail
    have K0 := Lib.hid (show Kept w (w.alloc (.cells #[.pointer none, .pointer none] 114)) from (Kept.refl w).allocO _)
    have RB := Lib.hid (Blk.fresh w #[.pointer none, .pointer none] 114)
    have hs0 : (w.alloc (.cells #[.pointer none, .pointer none] 114)).heap.size = w.heap.size + 1 := by simp
    obtain ⟨W0, hW0⟩ : ∃ W0, W0 = w.alloc (.cells #[.pointer none, .pointer none] 114) := ⟨_, rfl⟩
    rw [← hW0] at K0 RB hs0 ⊢
    clear hW0
    (with_reducible refine (Repeat_lit 8 144 144 rfl W0 (w.heap.size + 1) hs0.symm (by decide) (by decide)).mono ?_)
    rintro e w1 ⟨g1, rfl, hg1, ha1, hk1⟩
    have A1 := Lib.hid ha1
    have K1 := Lib.hid hk1
    clear ha1 hk1
    go_wp2_with fail
    (with_reducible refine (Repeat_lit 9 112 112 rfl w1 _ rfl (by decide) (by decide)).mono ?_)
    rintro e w2 ⟨g2, rfl, hg2, ha2, hk2⟩
    have A2 := Lib.hid ha2
    have K2 := Lib.hid hk2
    clear ha2 hk2
    go_wp2_with fail
    (with_reducible refine (Repeat_lit 7 24 24 rfl w2 _ rfl (by decide) (by decide)).mono ?_)
    rintro e w3 ⟨g3, rfl, hg3, ha3, hk3⟩
    have A3 := Lib.hid ha3
    have K3 := Lib.hid hk3
    clear ha3 hk3
    go_wp2_with fail
    (with_reducible refine (Repeat_lit 8 8 8 rfl w3 _ rfl (by decide) (by decide)).mono ?_)
    rintro e w4 ⟨g4, rfl, hg4, ha4, hk4⟩
    have A4 := Lib.hid ha4
    have K4 := Lib.hid hk4
    clear ha4 hk4
    go_wp2_with fail
    (with_reducible refine (Concat4 g1 g2 g3 g4 w4 _ rfl (A1.out.kept (K2.out.trans (K3.out.trans K4.out))) (A2.out.kept (K3.out.trans K4.out)) (A3.out.kept K4.out) A4.out).mono ?_)
    rintro e w5 ⟨g5, cap5, rfl, hi5, hk5⟩
    have I5 := Lib.hid hi5
    have K5 := Lib.hid (show Kept w w5 from K0.out.trans (K1.out.trans (K2.out.trans (K3.out.trans (K4.out.trans hk5)))))
    have RB5 := Lib.hid (RB.out.kept (K1.out.trans (K2.out.trans (K3.out.trans (K4.out.trans hk5)))))
    clear hi5 hk5 A1 A2 A3 A4 K1 K2 K3 K4 hg1 hg2 hg3 hg4 K0
    go_wp2_with fail
    (with_reducible refine (treeOf_good fixS fixS_ok (by decide) 288 (by decide) _ _ _ I5.out).mono ?_)
    rintro e w6 ⟨ts, rfl, ht6, hk6⟩
    have T6 := Lib.hid ht6
    have K6 := Lib.hid hk6
    clear ht6 hk6 I5
    go_wp2_with fail
    (with_reducible refine (Repeat_lit 5 32 32 rfl w6 _ rfl (by decide) (by decide)).mono ?_)
    rintro e w7 ⟨g7, rfl, hg7, ha7, hk7⟩
    have A7 := Lib.hid ha7
    have K7 := Lib.hid hk7
    clear ha7 hk7
    go_wp2_with fail
    (with_reducible refine (treeOf_good fixD fixD_ok (by decide) 32 (by decide) _ _ _ (ints5 A7.out)).mono ?_)
    rintro e w8 ⟨td, rfl, ht8, hk8⟩
    have K58 := Lib.hid (K6.out.trans (K7.out.trans hk8))
    have K8 := Lib.hid (K5.out.trans K58.out)
    have RB8 := Lib.hid (RB5.out.kept K58.out)
    have T68 := Lib.hid (T6.out.kept (K7.out.trans hk8))
    have T8 := Lib.hid ht8
    have HO8 := Lib.hid (HO.out.kept K8.out)
    obtain ⟨d0, d1, d2, d3⟩ := HO8.out.bi.cells
    have hbl8 := HO8.out.bi.blk.lt
    have hf8 := HO8.out.bi.blk.free
    obtain ⟨e0, e1⟩ := RB8.out.cells2
    have rl8 := RB8.out.lt
    have rf8 := RB8.out.free
    have hsz := Below.size K5.out
    have hsz6 := Below.size K6.out
    have hsz7 := Below.size K7.out
    have hsz8 := Below.size hk8
    have hbw : b ≠ w.heap.size := by omega
    have T68' := Lib.hid (given_end (ts := ts) (td := td) (q5 := w5.heap.size) (q6 := w6.heap.size) (q7 := w7.heap.size) HO.out K8.out rfl RB5.out.lt (by omega) (by have := RB5.out.lt; omega) T68.out T8.out _ rfl)
    clear c0 c1 c2 c3 ht8 hk8 A7
    go_wp2_with fail
    obtain ⟨f, gv', r1, r2, r3, r4, r5, r6⟩ := T68'.out
    refine bodyPost_ret (v := .agg #[.pointer (some ⟨ts, 0, none⟩), .pointer (some ⟨td, 0, none⟩)]) (by simp [results, Tryd.results80, go_sem, e0, e1, rl8]) rfl ?_
    exact ⟨ts, td, f, gv', rfl, r1, r2, r3, r4, r5, r6⟩
  · have HK := Lib.hid h4
    obtain ⟨t0, t1⟩ := h4.cells2
    have hkl := h4.lt
    have H2 := Lib.hid h2
    have H5 := Lib.hid h5
    have H6 := Lib.hid h6
    clear h h2 h4 h5 h6
    go_enter Tryd.func80, Tryd.ntmps80
    go_wp2_with fail
    have K1 := Lib.hid (show Kept w (w.alloc (.cells #[.pointer (some ⟨ts, 0, none⟩), .pointer (some ⟨td, 0, none⟩)] 114)) from (Kept.refl w).allocO _)
    refine bodyPost_ret (v := .agg #[.pointer (some ⟨ts, 0, none⟩), .pointer (some ⟨td, 0, none⟩)]) (by simp [results, Tryd.results80, go_sem]) rfl ?_
    exact ⟨ts, td, f, _, rfl, HO.out.kept K1.out, H2.out, H5.out.kept K1.out, H6.out.kept K1.out, .inr ⟨k, ts, td, f, rfl, H2.out, h3, HK.out.kept K1.out, H5.out.kept K1.out, H6.out.kept K1.out⟩, Gr.ofKept K1.out⟩

end Go.Proofs.YtpplboihlndfpaaDoor
