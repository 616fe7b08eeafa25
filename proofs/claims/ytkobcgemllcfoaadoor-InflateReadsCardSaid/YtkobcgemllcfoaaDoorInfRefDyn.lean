/-
  The reference's dynamic.
-/
import Derived.Test.YtkobcgemllcfoaaDoorInfRefStored
import Derived.Test.YtkobcgemllcfoaaDoorInfOwn
namespace Go.Proofs.YtkobcgemllcfoaaDoor
open Go.RowKit Ix
set_option linter.unusedSimpArgs false
set_option linter.unusedVariables false

def dynEnd (n : Nat) : Except Int (List Nat × Nat) → Except Int (List Nat × List Nat × Nat)
  | .error e => .error e
  | .ok (l, t') => if l.getD 256 0 = 0 then .error 3 else .ok (l.take n, l.drop n, t')
/-- Lengths of two trees, which may be none. -/
def dynV (B : List UInt8) (t : Nat) : Except Int (List Nat × List Nat × Nat) :=
  if t + 14 ≤ 8 * B.length then
    if 286 < numAt B 5 t + 257 ∨ 30 < numAt B 5 (t + 5) + 1 then .error 3
    else if t + 14 + 3 * (numAt B 4 (t + 10) + 4) ≤ 8 * B.length then
      if isTree (shortL B (numAt B 4 (t + 10) + 4) (t + 14)) = false then .error 3
      else dynEnd (numAt B 5 t + 257) (lensGo (shortL B (numAt B 4 (t + 10) + 4) (t + 14)) B (numAt B 5 t + 257 + (numAt B 5 (t + 5) + 1)) (numAt B 5 t + 257 + (numAt B 5 (t + 5) + 1) + 1) (t + 14 + 3 * (numAt B 4 (t + 10) + 4)) [])
    else .error 4
  else .error 4
def dynBlk (B : List UInt8) (out : List UInt8) : Except Int (List Nat × List Nat × Nat) → Except Int (List UInt8 × Nat)
  | .error e => .error e
  | .ok (S, D, t1) => codedV S D B t1 out
theorem own_dyn (B : List UInt8) (t : Nat) (out : List UInt8) : ownBlkV B out (ownV B t) = dynBlk B out (dynV B t) := by
  unfold ownV dynV
  split
  · split
    · rfl
    · split
      · split
        · rfl
        · generalize lensGo (shortL B (numAt B 4 (t + 10) + 4) (t + 14)) B (numAt B 5 t + 257 + (numAt B 5 (t + 5) + 1)) (numAt B 5 t + 257 + (numAt B 5 (t + 5) + 1) + 1) (t + 14 + 3 * (numAt B 4 (t + 10) + 4)) [] = r
          generalize numAt B 5 t + 257 = n
          cases r with
          | error k => rfl
          | ok r =>
            obtain ⟨l, t'⟩ := r
            unfold ownEnd dynEnd
            simp only
            by_cases e1 : l.getD 256 0 = 0
            · rw [if_pos e1, if_pos e1]; rfl
            · rw [if_neg e1, if_neg e1]
              unfold dynBlk codedV
              simp only
              by_cases e2 : isTree (l.take n) = false
              · rw [if_pos e2, if_pos e2]; rfl
              · rw [if_neg e2, if_neg e2]
                by_cases e3 : isTree (l.drop n) = false
                · rw [if_pos e3, if_pos e3]; rfl
                · rw [if_neg e3, if_neg e3]; rfl
      · rfl
  · rfl
/-- bits, by one word for both ways. -/
theorem bits_fun (n : Nat) (z : Int) (hz : z = (n : Int)) {w : World} {B0 b : Nat} {p : Option Addr} {c : Nat} {B : List UInt8} {t : Nat} {v : Value} {out : List UInt8} {e : Int} (h : Sw w B0 b p c B t v out e) (hn : n ≤ 16) (hB : B.length ≤ 1099511627776) :
    Calls Tryd.prog 46 #[.pointer (some ⟨b, 0, none⟩), .int .i64 z] w fun en w' => ∃ (x t' : Nat) (e' : Int), en = .returned (.int .i64 x) ∧ x < 2 ^ n ∧ SwR w B0 b p c B v w' t' v out e' ∧ Hid ((t + n ≤ 8 * B.length ∧ x = numAt B n t ∧ t' = t + n ∧ e' = e) ∨ (¬ t + n ≤ 8 * B.length ∧ t' = 8 * B.length ∧ e' = ef e 4)) := by
  refine (bits_lit n z hz h hn hB).mono fun en w' hb => ?_
  rcases hb with ⟨h1, h2, h3⟩ | ⟨h1, h2, h3⟩
  · exact ⟨_, _, _, h2, numAt_lt B t n, h3, Lib.hid (.inl ⟨h1, rfl, rfl, rfl⟩)⟩
  · exact ⟨0, _, _, h2, Nat.two_pow_pos n, h3, Lib.hid (.inr ⟨h1, rfl, rfl⟩)⟩
theorem ef_ne {e k : Int} (he : e ≠ 0) : ef e k = e := if_neg he
/-- What lies below is let be. -/
theorem Sw.low' {w w' : World} {B0 b : Nat} {p : Option Addr} {c : Nat} {B : List UInt8} {t : Nat} {v : Value} {out : List UInt8} {e : Int} {M : Nat} (h : Sw w B0 b p c B t v out e) (hb : b < M) (hv : ∀ k, v.ownBlock = some k → k < M) (g : ∀ j, j < M → w'.heap[j]? = w.heap[j]?) : Sw w' B0 b p c B t v out e := by
  refine ⟨(g b hb).trans h.blk, fun i hi => ?_, h.low, ?_, h.len, h.le⟩
  · obtain ⟨k, o, hp, hk, hc⟩ := h.byt i hi
    have := h.low
    exact ⟨k, o, hp, hk, by rw [← hc]; exact World.cell?_of_block (g k (by omega))⟩
  · rcases h.own.2 with ⟨h1, h2⟩ | ⟨x, cap, cur, h1, h2, h3, h4⟩
    · exact ⟨h.own.1, .inl ⟨h1, h2⟩⟩
    · exact ⟨h.own.1, .inr ⟨x, cap, cur, h1, h2, (g x (hv x (by rw [h1]; rfl))).trans h3, h4⟩⟩
/-- Behind an append to numbers of the call's own. -/
theorem gb_app {W wr w' : World} {b : Nat} {lv : Value} {o : Obj} (h : W.grownBy wr (some b)) (hl : ∀ k, lv.ownBlock = some k → W.heap.size ≤ k) (k : (wr.alloc o).grownBy w' lv.ownBlock) : W.grownBy w' (some b) ∧ ∀ j, j < W.heap.size → w'.heap[j]? = wr.heap[j]? := by
  have hs := h.size
  have key : ∀ j, j < W.heap.size → w'.heap[j]? = wr.heap[j]? := fun j hj => (k.block j (by simp; omega) (fun e => by have := hl j e.symm; omega)).trans (Below.heap_alloc wr o j (by omega))
  refine ⟨⟨k.os.trans h.os, k.tape.trans h.tape, k.output.trans h.output, ?_, fun j hj hn => (key j hj).trans (h.block j hj hn)⟩, key⟩
  have := k.size
  simp at this
  omega
theorem Nums.ro {w : World} {b M g n cap : Nat} {v : Value} {l : List Nat} (h : Nums w M (.slice (some ⟨g, 0, none⟩) n cap) l) (hn : n = l.length) (hb : b < M) (hv : ∀ k, v.ownBlock = some k → k < M) (n2 cap2 : Nat) (X : List Nat) (j : Nat) (hn2 : n2 = X.length) (hX : ∀ i (hi : i < X.length), l[j + i]? = some X[i]) : Ro w b v (.slice (some ⟨g, j, none⟩) n2 cap2) X := by
  have hl := World.ownsRow.lt h g rfl
  refine ⟨_, cap2, by rw [hn2], fun i hi => ⟨g, j, rfl, hl.2, by omega, fun e => by have := hv g e; omega, ?_⟩⟩
  have hx := hX i hi
  obtain ⟨h1, h2⟩ := List.getElem?_eq_some_iff.1 hx
  rw [h.cell hn (j + i) h1, h2]
theorem zero19 (s : Nat) : (0 : Int) = (((List.replicate 19 0).getD s 0 : Nat) : Int) := by
  rw [List.getD_eq_getElem?_getD, List.getElem?_replicate]
  split <;> rfl
def ordC : Array Value := #[.int .i64 16, .int .i64 17, .int .i64 18, .int .i64 0, .int .i64 8, .int .i64 7, .int .i64 9, .int .i64 6, .int .i64 10, .int .i64 5, .int .i64 11, .int .i64 4, .int .i64 12, .int .i64 3, .int .i64 13, .int .i64 2, .int .i64 14, .int .i64 1, .int .i64 15]
theorem ordC_get (i : Nat) (h : i < 19) : ordC[i]? = some (.int .i64 (ordL.getD i 0 : Nat)) := by
  rcases (show i = 0 ∨ i = 1 ∨ i = 2 ∨ i = 3 ∨ i = 4 ∨ i = 5 ∨ i = 6 ∨ i = 7 ∨ i = 8 ∨ i = 9 ∨ i = 10 ∨ i = 11 ∨ i = 12 ∨ i = 13 ∨ i = 14 ∨ i = 15 ∨ i = 16 ∨ i = 17 ∨ i = 18 by omega) with rfl | rfl | rfl | rfl | rfl | rfl | rfl | rfl | rfl | rfl | rfl | rfl | rfl | rfl | rfl | rfl | rfl | rfl | rfl <;> rfl
theorem ordC_at (W : World) (i : Nat) (h : i < 19) : (W.alloc (.cells #[.int .i64 16, .int .i64 17, .int .i64 18, .int .i64 0, .int .i64 8, .int .i64 7, .int .i64 9, .int .i64 6, .int .i64 10, .int .i64 5, .int .i64 11, .int .i64 4, .int .i64 12, .int .i64 3, .int .i64 13, .int .i64 2, .int .i64 14, .int .i64 1, .int .i64 15] 3)).cell? ⟨W.heap.size, i, none⟩ = some (.int .i64 (ordL.getD i 0 : Nat)) := by
  exact ((Blk.fresh W ordC 3).cell i).trans (ordC_get i h)
/-- A store into a row of the call's own. -/
theorem SwR.own {w wr : World} {B0 b : Nat} {p : Option Addr} {c : Nat} {B : List UInt8} {v v1 : Value} {t : Nat} {out : List UInt8} {e : Int} (h : SwR w B0 b p c B v wr t v1 out e) {q : Nat} (hb : b < w.heap.size) (hq : w.heap.size ≤ q) (hv : ∀ k, v1.ownBlock = some k → k < w.heap.size) (o : Nat) (x : Value) : SwR w B0 b p c B v (wr.setCell ⟨q, o, none⟩ x) t v1 out e := by
  have key : ∀ j, j < w.heap.size → (wr.setCell ⟨q, o, none⟩ x).heap[j]? = wr.heap[j]? := fun j hj => Below.heap_setCell wr ⟨q, o, none⟩ x j (by show j ≠ q; omega)
  refine ⟨h.st.low' hb hv key, h.gr.os, h.gr.tape, h.gr.output, by simpa using h.gr.size, fun j hj h1 h2 => (key j hj).trans (h.gr.block j hj h1 h2), h.gr.at'⟩
theorem Nums.shape {w : World} {M : Nat} {lv : Value} {l : List Nat} (h : Nums w M lv l) : ∃ sp sc, lv = .slice sp l.length sc := by
  rcases h.2 with ⟨rfl, h1⟩ | ⟨g, cap, cur, rfl, -⟩
  · exact ⟨none, 0, by rw [h1]⟩
  · exact ⟨_, cap, rfl⟩
theorem Nums.shapeS {w : World} {M : Nat} {lv : Value} {l : List Nat} (h : Nums w M lv l) (h0 : 0 < l.length) : ∃ g cap, lv = .slice (some ⟨g, 0, none⟩) l.length cap ∧ l.length ≤ cap := by
  rcases h.2 with ⟨rfl, h1⟩ | ⟨g, cap, cur, rfl, h2, h3, h4, -⟩
  · omega
  · exact ⟨g, cap, rfl, h4⟩
theorem Nums.gr {w w' : World} {M b : Nat} {v v' lv : Value} {l : List Nat} (h : Nums w M lv l) (g : Gr w b v w' v') (hb : b < M) (hv : ∀ k, v.ownBlock = some k → k < M) : Nums w' M lv l := by
  rcases h.2 with ⟨h1, h2⟩ | ⟨x, cap, cur, h1, h2, h3, h4⟩
  · exact ⟨h.1, .inl ⟨h1, h2⟩⟩
  · refine ⟨h.1, .inr ⟨x, cap, cur, h1, h2, ?_, h4⟩⟩
    have hx : x < w.heap.size := (Array.getElem?_eq_some_iff.1 h3).1
    rw [g.block x hx (by omega) (fun e => by have := hv x e; omega)]
    exact h3
theorem SwR.app {W wr w' : World} {B0 b : Nat} {p : Option Addr} {c : Nat} {B : List UInt8} {v lv : Value} {t : Nat} {out : List UInt8} {e : Int} {o : Obj} (h : SwR W B0 b p c B v wr t v out e) (hb : b < W.heap.size) (hv : ∀ k, v.ownBlock = some k → k < W.heap.size) (hl : ∀ k, lv.ownBlock = some k → W.heap.size ≤ k) (k : (wr.alloc o).grownBy w' lv.ownBlock) : SwR W B0 b p c B v w' t v out e := by
  have hs := h.gr.size
  have key : ∀ j, j < W.heap.size → w'.heap[j]? = wr.heap[j]? := fun j hj => (k.block j (by simp; omega) (fun e => by have := hl j e.symm; omega)).trans (Below.heap_alloc wr o j (by omega))
  refine ⟨h.st.low' hb hv key, k.os.trans h.gr.os, k.tape.trans h.gr.tape, k.output.trans h.gr.output, ?_, fun j hj h1 h2 => (key j hj).trans (h.gr.block j hj h1 h2), .inl rfl⟩
  have := k.size
  simp at this
  omega
/-- What dynamic leaves. -/
def DynA (w : World) (B0 b : Nat) (p : Option Addr) (c : Nat) (B : List UInt8) (v : Value) (out : List UInt8) (r : Except Int (List Nat × List Nat × Nat)) (en : Ending) (w' : World) : Prop :=
  ∃ lv dv, en = .returned (.tuple #[lv, dv]) ∧ ((∃ S D t', r = .ok (S, D, t') ∧ Ro w' b v lv S ∧ Ro w' b v dv D ∧ SwR w B0 b p c B v w' t' v out 0) ∨ ∃ k t', r = .error k ∧ k ≠ 0 ∧ SwR w B0 b p c B v w' t' v out k)
theorem dynA_no {w : World} {B0 b : Nat} {p : Option Addr} {c : Nat} {B : List UInt8} {v : Value} {out : List UInt8} {r : Except Int (List Nat × List Nat × Nat)} {w' : World} {k : Int} {t' : Nat} {lv dv : Value} (hr : r = .error k) (hk : k ≠ 0) (h : SwR w B0 b p c B v w' t' v out k) : DynA w B0 b p c B v out r (.returned (.tuple #[lv, dv])) w' := ⟨_, _, rfl, .inr ⟨k, t', hr, hk, h⟩⟩

set_option maxRecDepth 100000 in
set_option maxHeartbeats 8000000 in
theorem refDynamic_any {w : World} {B0 b : Nat} {p : Option Addr} {c : Nat} {B : List UInt8} {t : Nat} {v : Value} {out : List UInt8} (h : Sw w B0 b p c B t v out 0) (hB : B.length ≤ 1099511627776) :
    Calls Tryd.prog 50 #[.pointer (some ⟨b, 0, none⟩)] w (DynA w B0 b p c B v out (dynV B t)) := by
  have HS := Lib.hid h
  have hbl := h.blk.lt
  have HVO := Lib.hid (fun k (e : v.ownBlock = some k) => (h.own.lt k e).2)
  have B1 := Lib.hid (bits_fun 5 5 rfl h (by decide) hB)
  clear h
  go_enter Tryd.func50, Tryd.ntmps50
  go_wp2_with fail
  (with_reducible refine B1.out.mono ?_)
  rintro en w1 ⟨x1, t1, e1, rfl, hx1, hs1, H1⟩
  have HR1 := Lib.hid hs1
  have B2 := Lib.hid (bits_fun 5 5 rfl HR1.out.st (by decide) hB)
  clear hs1
  go_wp2_with fail
  (with_reducible refine B2.out.mono ?_)
  rintro en w2 ⟨x2, t2, e2, rfl, hx2, hs2, H2⟩
  have HR2 := Lib.hid (HR1.out.then hs2)
  have B3 := Lib.hid (bits_fun 4 4 rfl HR2.out.st (by decide) hB)
  clear hs2
  go_wp2_with fail
  (with_reducible refine B3.out.mono ?_)
  rintro en w3 ⟨x3, t3, e3, rfl, hx3, hs3, H3⟩
  have HR3 := Lib.hid (HR2.out.then hs3)
  clear hs3
  have hx1' : x1 < 32 := hx1
  have hx2' : x2 < 32 := hx2
  have hx3' : x3 < 16 := hx3
  have HST := Lib.hid (show (e3 = 0 ∧ t + 14 ≤ 8 * B.length ∧ x1 = numAt B 5 t ∧ x2 = numAt B 5 (t + 5) ∧ x3 = numAt B 4 (t + 10) ∧ t3 = t + 14) ∨ (e3 ≠ 0 ∧ dynV B t = .error e3) by
    have htl := HS.out.le
    rcases H1.out with ⟨p1, p2, p3, p4⟩ | ⟨p1, p3, p4⟩
    · rcases H2.out with ⟨q1, q2, q3, q4⟩ | ⟨q1, q3, q4⟩
      · rcases H3.out with ⟨r1, r2, r3, r4⟩ | ⟨r1, r3, r4⟩
        · left
          subst p3 q3 p4 q4
          exact ⟨r4, by omega, p2, q2, r2, r3⟩
        · right
          subst p3 q3 p4 q4
          rw [r4]
          exact ⟨by decide, by unfold dynV; rw [if_neg (by omega)]; rfl⟩
      · right
        subst p3 p4 q3 q4
        have he : e3 = 4 := by
          rcases H3.out with ⟨r1, r2, r3, r4⟩ | ⟨r1, r3, r4⟩
          · exact r4
          · exact r4
        rw [he]
        exact ⟨by decide, by unfold dynV; rw [if_neg (by omega)]⟩
    · right
      subst p3 p4
      have he2 : e2 = 4 := by
        rcases H2.out with ⟨r1, r2, r3, r4⟩ | ⟨r1, r3, r4⟩
        · exact r4
        · exact r4
      subst he2
      have he : e3 = 4 := by
        rcases H3.out with ⟨r1, r2, r3, r4⟩ | ⟨r1, r3, r4⟩
        · exact r4
        · exact r4
      rw [he]
      exact ⟨by decide, by unfold dynV; rw [if_neg (by omega)]⟩)
  obtain ⟨c0, c1, c2, c3⟩ := HR3.out.st.cells
  clear hx1 hx2 hx3 H1 H2 H3 B1 B2 B3
  obtain ⟨i0, hi, hz0, hz1, hz2⟩ := info_parts info_int
  rcases HST.out with ⟨he3, ht14, hn1, hn2, hn3, ht3⟩ | ⟨he3, hv3⟩
  rotate_left
  · have HV := Lib.hid hv3
    have HE := Lib.hid he3
    have f0 : (e3 == 0) = false := by rw [beq_eq_false_iff_ne]; exact he3
    have f1 : (e3 != 0) = true := by rw [bne_iff_ne]; exact he3
    clear hv3 he3
    have hszm := HR3.out.gr.size
    go_wp2_with (at_make; refine wpList_make_full _ rfl _ _ 43 rfl w.heap.size 3 i0 (.int .i64 0) 1 Tryd.underlying43 hi hz0 hz1 .i64 .i64 _ _ 19 rfl rfl rfl rfl (by rw [hz2]; decide) (by decide) hszm ?_; intro w5 hown hgrow)
    have G5 := Lib.hid (arr_made hown)
    have HR5 := Lib.hid (HR3.out.kept (show Kept w3 w5 from Below.grown (Kept.refl w3) hgrow (Nat.le_refl _) (fun k h => by cases h)))
    have hq0 : w3.heap.size < w5.heap.size := G5.out.lt
    obtain ⟨q, hq⟩ : ∃ q, q = w3.heap.size := ⟨_, rfl⟩
    have HQB := Lib.hid (show w.heap.size ≤ q by rw [hq]; exact hszm)
    rw [← hq] at G5 ⊢
    clear hown hgrow hi hz0 hz1 hz2 hq hq0 hszm
    obtain ⟨c0, c1, c2, c3⟩ := HR5.out.st.cells
    go_loopg [8] 1 (fun m iv wr => m = 1 ∧ iv = .int .i64 0 ∧ wr = w5)
    case atStart => exact ⟨rfl, rfl, rfl⟩
    case round =>
      obtain ⟨hm, rfl, rfl⟩ := hrel
      have hpos2 : (0 : Int) < (x3 : Int) + 4 := by omega
      have ISa := Lib.hid (show IntsR wr (some ⟨q, 0, none⟩) ((List.replicate 19 0).map Int.ofNat) from (G5.out.fn _ (fun s hs => zero19 s)).ints (by simp))
      have CSa := Lib.hid (refCodes_any ((List.replicate 19 0).map Int.ofNat) (some ⟨q, 0, none⟩) 19 wr ISa.out (by simp))
      have hl19a : ((List.replicate 19 0).map Int.ofNat).length = 19 := by simp
      rw [hl19a] at CSa
      clear hl19a
      go_wp2_with fail
      (with_reducible refine CSa.out.mono ?_)
      intro en wc hca
      obtain ⟨hkc, hca⟩ := hca
      obtain ⟨cv, ce, hen⟩ : ∃ cv ce, en = .returned (.tuple #[cv, .int .i64 ce]) := by
        cases hv9 : codesV ((List.replicate 19 0).map Int.ofNat) with
        | error k9 => rw [hv9] at hca; exact ⟨_, _, hca⟩
        | ok l9 => rw [hv9] at hca; obtain ⟨g9, h9, -⟩ := hca; exact ⟨_, _, h9⟩
      subst hen
      have HRc := Lib.hid ((HR5.out).kept hkc)
      have FAc := Lib.hid (fail_any HRc.out.st ce)
      clear hca hkc
      go_wp2_with fail
      (with_reducible refine FAc.out.mono ?_)
      rintro en wd ⟨rfl, hsd⟩
      have HRd := Lib.hid (HRc.out.then (hsd.ef (ef_ne HE.out)))
      obtain ⟨c0, c1, c2, c3⟩ := HRd.out.st.cells
      clear hsd
      go_wp2_with fail
      go_loopg [11] 1 (fun m lv wr => m = 1 ∧ lv = .slice none 0 0 ∧ wr = wd)
      case atStart => exact ⟨rfl, rfl, rfl⟩
      case round =>
        obtain ⟨hm, rfl, rfl⟩ := hrel
        have hpos : (0 : Int) < (x1 : Int) + 257 + ((x2 : Int) + 1) := by omega
        go_wp2_with fail
        go_ret2
        exact dynA_no HV.out HE.out HRd.out
  · subst he3 ht3
    have HDV := Lib.hid (show dynV B t = if 286 < x1 + 257 ∨ 30 < x2 + 1 then .error 3 else if t + 14 + 3 * (x3 + 4) ≤ 8 * B.length then
        if isTree (shortL B (x3 + 4) (t + 14)) = false then .error 3 else dynEnd (x1 + 257) (lensGo (shortL B (x3 + 4) (t + 14)) B (x1 + 257 + (x2 + 1)) (x1 + 257 + (x2 + 1) + 1) (t + 14 + 3 * (x3 + 4)) []) else .error 4 by
      unfold dynV
      rw [if_pos ht14, ← hn1, ← hn2, ← hn3])
    clear hn1 hn2 hn3 HST
    by_cases hbig : 286 < x1 + 257 ∨ 30 < x2 + 1
    · have HV := Lib.hid (HDV.out.trans (if_pos hbig))
      have FA := Lib.hid (fail_any HR3.out.st 3)
      have HE := Lib.hid (show (3 : Int) ≠ 0 by decide)
      by_cases hb1 : 286 < x1 + 257
      · have i1 : (286 : Int) < (x1 : Int) + 257 := by omega
        clear hbig hb1
        go_wp2_with fail
        (with_reducible refine FA.out.mono ?_)
        rintro en w4 ⟨rfl, hs4⟩
        have HR4 := Lib.hid (HR3.out.then (hs4.ef (show ef 0 3 = 3 from rfl)))
        clear hs4 c0 c1 c2 c3
        have hszm := HR4.out.gr.size
        go_wp2_with (at_make; refine wpList_make_full _ rfl _ _ 43 rfl w.heap.size 3 i0 (.int .i64 0) 1 Tryd.underlying43 hi hz0 hz1 .i64 .i64 _ _ 19 rfl rfl rfl rfl (by rw [hz2]; decide) (by decide) hszm ?_; intro w5 hown hgrow)
        have G5 := Lib.hid (arr_made hown)
        have HR5 := Lib.hid (HR4.out.kept (show Kept w4 w5 from Below.grown (Kept.refl w4) hgrow (Nat.le_refl _) (fun k h => by cases h)))
        have hq0 : w4.heap.size < w5.heap.size := G5.out.lt
        obtain ⟨q, hq⟩ : ∃ q, q = w4.heap.size := ⟨_, rfl⟩
        have HQB := Lib.hid (show w.heap.size ≤ q by rw [hq]; exact hszm)
        rw [← hq] at G5 ⊢
        clear hown hgrow hi hz0 hz1 hz2 hq hq0 hszm
        obtain ⟨c0, c1, c2, c3⟩ := HR5.out.st.cells
        go_loopg [8] 1 (fun m iv wr => m = 1 ∧ iv = .int .i64 0 ∧ wr = w5)
        case atStart => exact ⟨rfl, rfl, rfl⟩
        case round =>
          obtain ⟨hm, rfl, rfl⟩ := hrel
          have hpos2 : (0 : Int) < (x3 : Int) + 4 := by omega
          have ISa := Lib.hid (show IntsR wr (some ⟨q, 0, none⟩) ((List.replicate 19 0).map Int.ofNat) from (G5.out.fn _ (fun s hs => zero19 s)).ints (by simp))
          have CSa := Lib.hid (refCodes_any ((List.replicate 19 0).map Int.ofNat) (some ⟨q, 0, none⟩) 19 wr ISa.out (by simp))
          have hl19a : ((List.replicate 19 0).map Int.ofNat).length = 19 := by simp
          rw [hl19a] at CSa
          clear hl19a
          go_wp2_with fail
          (with_reducible refine CSa.out.mono ?_)
          intro en wc hca
          obtain ⟨hkc, hca⟩ := hca
          obtain ⟨cv, ce, hen⟩ : ∃ cv ce, en = .returned (.tuple #[cv, .int .i64 ce]) := by
            cases hv9 : codesV ((List.replicate 19 0).map Int.ofNat) with
            | error k9 => rw [hv9] at hca; exact ⟨_, _, hca⟩
            | ok l9 => rw [hv9] at hca; obtain ⟨g9, h9, -⟩ := hca; exact ⟨_, _, h9⟩
          subst hen
          have HRc := Lib.hid ((HR5.out).kept hkc)
          have FAc := Lib.hid (fail_any HRc.out.st ce)
          clear hca hkc
          go_wp2_with fail
          (with_reducible refine FAc.out.mono ?_)
          rintro en wd ⟨rfl, hsd⟩
          have HRd := Lib.hid (HRc.out.then (hsd.ef (ef_ne HE.out)))
          obtain ⟨c0, c1, c2, c3⟩ := HRd.out.st.cells
          clear hsd
          go_wp2_with fail
          go_loopg [11] 1 (fun m lv wr => m = 1 ∧ lv = .slice none 0 0 ∧ wr = wd)
          case atStart => exact ⟨rfl, rfl, rfl⟩
          case round =>
            obtain ⟨hm, rfl, rfl⟩ := hrel
            have hpos : (0 : Int) < (x1 : Int) + 257 + ((x2 : Int) + 1) := by omega
            go_wp2_with fail
            go_ret2
            exact dynA_no HV.out HE.out HRd.out
      · have i1 : ¬ (286 : Int) < (x1 : Int) + 257 := by omega
        have i2 : (30 : Int) < (x2 : Int) + 1 := by omega
        clear hbig hb1
        go_wp2_with fail
        (with_reducible refine FA.out.mono ?_)
        rintro en w4 ⟨rfl, hs4⟩
        have HR4 := Lib.hid (HR3.out.then (hs4.ef (show ef 0 3 = 3 from rfl)))
        clear hs4 c0 c1 c2 c3
        have hszm := HR4.out.gr.size
        go_wp2_with (at_make; refine wpList_make_full _ rfl _ _ 43 rfl w.heap.size 3 i0 (.int .i64 0) 1 Tryd.underlying43 hi hz0 hz1 .i64 .i64 _ _ 19 rfl rfl rfl rfl (by rw [hz2]; decide) (by decide) hszm ?_; intro w5 hown hgrow)
        have G5 := Lib.hid (arr_made hown)
        have HR5 := Lib.hid (HR4.out.kept (show Kept w4 w5 from Below.grown (Kept.refl w4) hgrow (Nat.le_refl _) (fun k h => by cases h)))
        have hq0 : w4.heap.size < w5.heap.size := G5.out.lt
        obtain ⟨q, hq⟩ : ∃ q, q = w4.heap.size := ⟨_, rfl⟩
        have HQB := Lib.hid (show w.heap.size ≤ q by rw [hq]; exact hszm)
        rw [← hq] at G5 ⊢
        clear hown hgrow hi hz0 hz1 hz2 hq hq0 hszm
        obtain ⟨c0, c1, c2, c3⟩ := HR5.out.st.cells
        go_loopg [8] 1 (fun m iv wr => m = 1 ∧ iv = .int .i64 0 ∧ wr = w5)
        case atStart => exact ⟨rfl, rfl, rfl⟩
        case round =>
          obtain ⟨hm, rfl, rfl⟩ := hrel
          have hpos2 : (0 : Int) < (x3 : Int) + 4 := by omega
          have ISa := Lib.hid (show IntsR wr (some ⟨q, 0, none⟩) ((List.replicate 19 0).map Int.ofNat) from (G5.out.fn _ (fun s hs => zero19 s)).ints (by simp))
          have CSa := Lib.hid (refCodes_any ((List.replicate 19 0).map Int.ofNat) (some ⟨q, 0, none⟩) 19 wr ISa.out (by simp))
          have hl19a : ((List.replicate 19 0).map Int.ofNat).length = 19 := by simp
          rw [hl19a] at CSa
          clear hl19a
          go_wp2_with fail
          (with_reducible refine CSa.out.mono ?_)
          intro en wc hca
          obtain ⟨hkc, hca⟩ := hca
          obtain ⟨cv, ce, hen⟩ : ∃ cv ce, en = .returned (.tuple #[cv, .int .i64 ce]) := by
            cases hv9 : codesV ((List.replicate 19 0).map Int.ofNat) with
            | error k9 => rw [hv9] at hca; exact ⟨_, _, hca⟩
            | ok l9 => rw [hv9] at hca; obtain ⟨g9, h9, -⟩ := hca; exact ⟨_, _, h9⟩
          subst hen
          have HRc := Lib.hid ((HR5.out).kept hkc)
          have FAc := Lib.hid (fail_any HRc.out.st ce)
          clear hca hkc
          go_wp2_with fail
          (with_reducible refine FAc.out.mono ?_)
          rintro en wd ⟨rfl, hsd⟩
          have HRd := Lib.hid (HRc.out.then (hsd.ef (ef_ne HE.out)))
          obtain ⟨c0, c1, c2, c3⟩ := HRd.out.st.cells
          clear hsd
          go_wp2_with fail
          go_loopg [11] 1 (fun m lv wr => m = 1 ∧ lv = .slice none 0 0 ∧ wr = wd)
          case atStart => exact ⟨rfl, rfl, rfl⟩
          case round =>
            obtain ⟨hm, rfl, rfl⟩ := hrel
            have hpos : (0 : Int) < (x1 : Int) + 257 + ((x2 : Int) + 1) := by omega
            go_wp2_with fail
            go_ret2
            exact dynA_no HV.out HE.out HRd.out
    · have i1 : ¬ (286 : Int) < (x1 : Int) + 257 := by omega
      have i2 : ¬ (30 : Int) < (x2 : Int) + 1 := by omega
      have HD2 := Lib.hid (HDV.out.trans (if_neg hbig))
      have hn286 : x1 + 257 ≤ 286 := by omega
      have hm30 : x2 + 1 ≤ 30 := by omega
      clear hbig HDV
      have hszm := HR3.out.gr.size
      go_wp2_with (at_make; refine wpList_make_full _ rfl _ _ 43 rfl w.heap.size 3 i0 (.int .i64 0) 1 Tryd.underlying43 hi hz0 hz1 .i64 .i64 _ _ 19 rfl rfl rfl rfl (by rw [hz2]; decide) (by decide) hszm ?_; intro w5 hown hgrow)
      have G5 := Lib.hid (arr_made hown)
      have HR5 := Lib.hid (HR3.out.kept (show Kept w3 w5 from Below.grown (Kept.refl w3) hgrow (Nat.le_refl _) (fun k h => by cases h)))
      have hq0 : w3.heap.size < w5.heap.size := G5.out.lt
      obtain ⟨q, hq⟩ : ∃ q, q = w3.heap.size := ⟨_, rfl⟩
      have HQB := Lib.hid (show w.heap.size ≤ q by rw [hq]; exact hszm)
      rw [← hq] at G5 ⊢
      clear hown hgrow hi hz0 hz1 hz2 hq hq0 hszm
      clear c0 c1 c2 c3
      obtain ⟨kk, hkk⟩ : ∃ kk, kk = x3 + 4 := ⟨_, rfl⟩
      have HKK := Lib.hid hkk
      have hkI : (x3 : Int) + 4 = (kk : Int) := by omega
      have hk19 : kk ≤ 19 := by omega
      rw [← hkk] at HD2
      simp only [hkI]
      clear hkk hkI
      go_loopg [8] (kk + 2) (fun m iv wr => ∃ (i tt : Nat) (e1 : Int) (F : Nat → Nat), m = kk + 2 - i ∧ i ≤ kk + 1 ∧ iv = .int .i64 i ∧ SwR w B0 b p c B v wr tt v out e1 ∧ Arr wr q 19 (fun s => ((F s : Nat) : Int)) 3 ∧ Hid (∀ s, F s < 8) ∧ ((e1 = 0 ∧ i ≤ kk ∧ tt = t + 14 + 3 * i ∧ Hid (F = shortTo B (t + 14) i)) ∨ (e1 ≠ 0 ∧ Hid (dynV B t = .error e1))))
      case atStart => exact ⟨0, t + 14, 0, fun _ => 0, rfl, Nat.zero_le _, rfl, HR5.out, G5.out, Lib.hid (fun _ => by show 0 < 8; decide), .inl ⟨rfl, Nat.zero_le _, rfl, Lib.hid rfl⟩⟩
      case round =>
        obtain ⟨i, tt, e1, F, hm, hi, rfl, hs, hg, HF8, hst⟩ := hrel
        have HR := Lib.hid hs
        have HG := Lib.hid hg
        obtain ⟨c0, c1, c2, c3⟩ := hs.st.cells
        clear hs hg
        rcases hst with ⟨rfl, hik, htt, HFS⟩ | ⟨he1, HV⟩
        · have HTT := Lib.hid htt
          by_cases hlt : i < kk
          · have g0 : (i : Int) < (kk : Int) := by omega
            have ho19 := ord_lt i (by omega)
            have OC := Lib.hid (fun W => ordC_at W i (by omega))
            obtain ⟨o, hoo⟩ : ∃ o, o = ordL.getD i 0 := ⟨_, rfl⟩
            rw [← hoo] at ho19 OC
            have HOO := Lib.hid hoo
            have hi2 : (0 : Int) ≤ (i : Int) := by omega
            have hi3 : (i : Int) < 19 := by omega
            have hi4 : i < 19 := by omega
            have ho2 : (0 : Int) ≤ (o : Int) := by omega
            have ho3 : (o : Int) < 19 := by omega
            have ho4 : o < 19 := ho19
            have hgq := HG.out.lt
            have hqb : b < q := Nat.lt_of_lt_of_le hbl HQB.out
            have NB := Lib.hid (fun w' (k : Kept wr w') => bits_fun 3 3 rfl (HR.out.kept k).st (by decide) hB)
            have KD := Lib.hid (show Kept wr wr.drew from (Kept.refl wr).drew)
            have KA := Lib.hid (show Kept wr ((wr.alloc (.cells #[.int .i64 16, .int .i64 17, .int .i64 18, .int .i64 0, .int .i64 8, .int .i64 7, .int .i64 9, .int .i64 6, .int .i64 10, .int .i64 5, .int .i64 11, .int .i64 4, .int .i64 12, .int .i64 3, .int .i64 13, .int .i64 2, .int .i64 14, .int .i64 1, .int .i64 15] 3)).drew) from ((Kept.refl wr).allocO _).drew)
            clear hoo htt
            go_wp2_with fail
            refine wp_region_any (by kernel_rfl) ?_
            change wpAny _ _ _ _ _ _ _ (World.drew _)
            refine wpAny_take (i := 0) (v := ?_) rfl (by kernel_rfl) (by kernel_rfl) (by kernel_rfl) (fun _ _ _ h => h) (Or.inl ⟨by rfl, (by intro w; go_simp; try with_reducible rfl)⟩) ?_
            refine wpAny_take (i := 2) (v := ?_) rfl (by kernel_rfl) (by kernel_rfl) (by kernel_rfl) (fun _ _ _ h => h) (Or.inl ⟨by rfl, (by intro w; go_simp; try with_reducible rfl)⟩) ?_
            refine wpAny_take (i := 5) (v := ?_) rfl (by kernel_rfl) (by kernel_rfl) (by kernel_rfl) (fun _ _ _ h => h) (Or.inl ⟨by rfl, (by intro w; go_simp; try with_reducible rfl)⟩) ?_
            refine wpAny_ready (rs := [1, 6]) (by kernel_rfl) (by simp) ?_
            refine AllReady.cons rfl (fun K hK => ?_) (AllReady.cons rfl (fun K hK => ?_) AllReady.nil)
            · go_simp
              refine hK _ _ ?_
              clear hK K
              have m0 := OC.out wr
              refine wpAny_take (i := 3) (v := ?_) rfl (by kernel_rfl) (by kernel_rfl) (by kernel_rfl) (fun _ _ _ h => h) (Or.inl ⟨by rfl, (by intro w; go_simp; try with_reducible rfl)⟩) ?_
              refine wpAny_ready (rs := [4, 6]) (by kernel_rfl) (by simp) ?_
              refine AllReady.cons rfl (fun K hK => ?_) (AllReady.cons rfl (fun K hK => ?_) AllReady.nil)
              · go_simp
                refine hK _ _ ?_
                clear hK K
                refine wpAny_ready (rs := [6]) (by kernel_rfl) (by simp) ?_
                refine AllReady.cons rfl (fun K hK => ?_) AllReady.nil
                go_simp
                go_wp2_with fail
                (with_reducible refine (NB.out _ KA.out).mono ?_)
                rintro en w6 ⟨x, t6, e6, rfl, hx6, hs6, H6⟩
                have HR6 := Lib.hid ((HR.out.kept KA.out).then hs6)
                have G6 := Lib.hid (hs6.gr)
                have HGA := Lib.hid ((HG.out.kept KA.out))
                have hx8 : x < 8 := hx6
                clear hs6 hx6
                have HG6 := Lib.hid (show Arr w6 q 19 (fun s => ((F s : Nat) : Int)) 3 from (G6.out.block q HGA.out.lt (by omega) (fun e => by have := HVO.out q e; have := HQB.out; omega)).trans HGA.out)
                have d0 := HG6.out.cell o ho4
                have d1 := HG6.out.free
                have d2 := HG6.out.lt
                go_wp2_with fail
                refine wpAny_take (i := 7) (v := ?_) rfl (by kernel_rfl) (by kernel_rfl) (by kernel_rfl) (fun _ _ _ h => h) (Or.inl ⟨by rfl, (by intro w; go_simp; try with_reducible rfl)⟩) ?_
                refine wpAny_ready (rs := [8]) (by kernel_rfl) (by simp) ?_
                refine AllReady.cons rfl (fun K hK => ?_) AllReady.nil
                go_simp
                refine hK _ _ ?_
                clear hK K
                refine wpAny_done (by kernel_rfl) ?_ _
                go_wp2_with fail
                go_roundg (kk + 2 - (i + 1))
                case measure => omega
                case rel =>
                  have hF6 : ∀ s, (if s = o then x else F s) < 8 := fun s => by
                    split
                    · exact hx8
                    · exact HF8.out s
                  refine ⟨i + 1, t6, e6, fun s => if s = o then x else F s, rfl, by omega, by go_num, SwR.own HR6.out hbl HQB.out HVO.out _ _, ?_, Lib.hid hF6, ?_⟩
                  · refine (HG6.out.set o (x : Int)).fn _ fun s hs => ?_
                    show (if s = o then (x : Int) else ((F s : Nat) : Int)) = (((if s = o then x else F s : Nat)) : Int)
                    split <;> rfl
                  · rcases H6.out with ⟨r1, r2, r3, r4⟩ | ⟨r1, r3, r4⟩
                    · refine .inl ⟨r4, by omega, by have := HTT.out; omega, Lib.hid ?_⟩
                      funext s
                      rw [shortTo, ← HOO.out, ← HFS.out, ← HTT.out, ← r2]
                    · have e4 : ef 0 4 = 4 := rfl
                      rw [e4] at r4
                      refine .inr ⟨by rw [r4]; decide, Lib.hid ?_⟩
                      rw [r4, HD2.out, if_neg (by have := HTT.out; have := HKK.out; omega)]
              · go_simp
                go_wp2_with fail
                (with_reducible refine (NB.out _ KA.out).mono ?_)
                rintro en w6 ⟨x, t6, e6, rfl, hx6, hs6, H6⟩
                have HR6 := Lib.hid ((HR.out.kept KA.out).then hs6)
                have G6 := Lib.hid (hs6.gr)
                have HGA := Lib.hid ((HG.out.kept KA.out))
                have hx8 : x < 8 := hx6
                clear hs6 hx6
                have HG6 := Lib.hid (show Arr w6 q 19 (fun s => ((F s : Nat) : Int)) 3 from (G6.out.block q HGA.out.lt (by omega) (fun e => by have := HVO.out q e; have := HQB.out; omega)).trans HGA.out)
                have m6 : w6.cell? ⟨wr.heap.size, i, none⟩ = some (.int .i64 (o : Int)) := by
                  rw [← m0]
                  exact World.cell?_of_block (G6.out.block wr.heap.size (by simp) (by have := HR.out.st.blk.lt; omega) (fun e => by have := (HR.out.st.own.lt _ e).2; omega))
                have d0 := HG6.out.cell o ho4
                have d1 := HG6.out.free
                have d2 := HG6.out.lt
                go_wp2_with fail
                refine wpAny_ready (rs := [4]) (by kernel_rfl) (by simp) ?_
                refine AllReady.cons rfl (fun K hK => ?_) AllReady.nil
                go_simp
                refine hK _ _ ?_
                clear hK K
                refine wpAny_take (i := 7) (v := ?_) rfl (by kernel_rfl) (by kernel_rfl) (by kernel_rfl) (fun _ _ _ h => h) (Or.inl ⟨by rfl, (by intro w; go_simp; try with_reducible rfl)⟩) ?_
                refine wpAny_ready (rs := [8]) (by kernel_rfl) (by simp) ?_
                refine AllReady.cons rfl (fun K hK => ?_) AllReady.nil
                go_simp
                refine hK _ _ ?_
                clear hK K
                refine wpAny_done (by kernel_rfl) ?_ _
                go_wp2_with fail
                go_roundg (kk + 2 - (i + 1))
                case measure => omega
                case rel =>
                  have hF6 : ∀ s, (if s = o then x else F s) < 8 := fun s => by
                    split
                    · exact hx8
                    · exact HF8.out s
                  refine ⟨i + 1, t6, e6, fun s => if s = o then x else F s, rfl, by omega, by go_num, SwR.own HR6.out hbl HQB.out HVO.out _ _, ?_, Lib.hid hF6, ?_⟩
                  · refine (HG6.out.set o (x : Int)).fn _ fun s hs => ?_
                    show (if s = o then (x : Int) else ((F s : Nat) : Int)) = (((if s = o then x else F s : Nat)) : Int)
                    split <;> rfl
                  · rcases H6.out with ⟨r1, r2, r3, r4⟩ | ⟨r1, r3, r4⟩
                    · refine .inl ⟨r4, by omega, by have := HTT.out; omega, Lib.hid ?_⟩
                      funext s
                      rw [shortTo, ← HOO.out, ← HFS.out, ← HTT.out, ← r2]
                    · have e4 : ef 0 4 = 4 := rfl
                      rw [e4] at r4
                      refine .inr ⟨by rw [r4]; decide, Lib.hid ?_⟩
                      rw [r4, HD2.out, if_neg (by have := HTT.out; have := HKK.out; omega)]
            · go_simp
              go_wp2_with fail
              (with_reducible refine (NB.out _ KD.out).mono ?_)
              rintro en w6 ⟨x, t6, e6, rfl, hx6, hs6, H6⟩
              have HR6 := Lib.hid ((HR.out.kept KD.out).then hs6)
              have G6 := Lib.hid (hs6.gr)
              have HGA := Lib.hid ((HG.out.kept KD.out))
              have hx8 : x < 8 := hx6
              clear hs6 hx6
              have HG5 := Lib.hid (show Arr w6 q 19 (fun s => ((F s : Nat) : Int)) 3 from (G6.out.block q HGA.out.lt (by omega) (fun e => by have := HVO.out q e; have := HQB.out; omega)).trans HGA.out)
              have HG6 := Lib.hid (HG5.out.alloc (.cells #[.int .i64 16, .int .i64 17, .int .i64 18, .int .i64 0, .int .i64 8, .int .i64 7, .int .i64 9, .int .i64 6, .int .i64 10, .int .i64 5, .int .i64 11, .int .i64 4, .int .i64 12, .int .i64 3, .int .i64 13, .int .i64 2, .int .i64 14, .int .i64 1, .int .i64 15] 3))
              have KB6 := Lib.hid (show Kept w6 (w6.alloc (.cells #[.int .i64 16, .int .i64 17, .int .i64 18, .int .i64 0, .int .i64 8, .int .i64 7, .int .i64 9, .int .i64 6, .int .i64 10, .int .i64 5, .int .i64 11, .int .i64 4, .int .i64 12, .int .i64 3, .int .i64 13, .int .i64 2, .int .i64 14, .int .i64 1, .int .i64 15] 3)) from (Kept.refl w6).allocO _)
              have m6 := OC.out w6
              have d0 := HG6.out.cell o ho4
              have d1 := HG6.out.free
              have d2 := HG6.out.lt
              go_wp2_with fail
              refine wpAny_ready (rs := [1]) (by kernel_rfl) (by simp) ?_
              refine AllReady.cons rfl (fun K hK => ?_) AllReady.nil
              go_simp
              refine hK _ _ ?_
              clear hK K
              refine wpAny_take (i := 3) (v := ?_) rfl (by kernel_rfl) (by kernel_rfl) (by kernel_rfl) (fun _ _ _ h => h) (Or.inl ⟨by rfl, (by intro w; go_simp; try with_reducible rfl)⟩) ?_
              refine wpAny_ready (rs := [4]) (by kernel_rfl) (by simp) ?_
              refine AllReady.cons rfl (fun K hK => ?_) AllReady.nil
              go_simp
              refine hK _ _ ?_
              clear hK K
              refine wpAny_take (i := 7) (v := ?_) rfl (by kernel_rfl) (by kernel_rfl) (by kernel_rfl) (fun _ _ _ h => h) (Or.inl ⟨by rfl, (by intro w; go_simp; try with_reducible rfl)⟩) ?_
              refine wpAny_ready (rs := [8]) (by kernel_rfl) (by simp) ?_
              refine AllReady.cons rfl (fun K hK => ?_) AllReady.nil
              go_simp
              refine hK _ _ ?_
              clear hK K
              refine wpAny_done (by kernel_rfl) ?_ _
              go_wp2_with fail
              go_roundg (kk + 2 - (i + 1))
              case measure => omega
              case rel =>
                have hF6 : ∀ s, (if s = o then x else F s) < 8 := fun s => by
                  split
                  · exact hx8
                  · exact HF8.out s
                refine ⟨i + 1, t6, e6, fun s => if s = o then x else F s, rfl, by omega, by go_num, SwR.own (HR6.out.kept KB6.out) hbl HQB.out HVO.out _ _, ?_, Lib.hid hF6, ?_⟩
                · refine (HG6.out.set o (x : Int)).fn _ fun s hs => ?_
                  show (if s = o then (x : Int) else ((F s : Nat) : Int)) = (((if s = o then x else F s : Nat)) : Int)
                  split <;> rfl
                · rcases H6.out with ⟨r1, r2, r3, r4⟩ | ⟨r1, r3, r4⟩
                  · refine .inl ⟨r4, by omega, by have := HTT.out; omega, Lib.hid ?_⟩
                    funext s
                    rw [shortTo, ← HOO.out, ← HFS.out, ← HTT.out, ← r2]
                  · have e4 : ef 0 4 = 4 := rfl
                    rw [e4] at r4
                    refine .inr ⟨by rw [r4]; decide, Lib.hid ?_⟩
                    rw [r4, HD2.out, if_neg (by have := HTT.out; have := HKK.out; omega)]
          · obtain rfl : i = kk := by omega
            have htt8 := HR.out.st.le
            have HD3 := Lib.hid (HD2.out.trans (if_pos (by have := HTT.out; omega)))
            obtain ⟨S, hS⟩ : ∃ S, S = shortL B i (t + 14) := ⟨_, rfl⟩
            rw [← hS] at HD3
            have HS19 := Lib.hid (show S.length = 19 by rw [hS]; exact shortL_len _ _ _)
            have HS15 := Lib.hid (show ∀ x ∈ S, x ≤ 15 by rw [hS]; exact shortL_le _ _ _)
            have RS := Lib.hid (show Ro wr b v (.slice (some ⟨q, 0, none⟩) 19 19) S from ⟨_, 19, by rw [HS19.out], fun s hs => by
              refine ⟨q, 0, rfl, HG.out.lt, by have := HQB.out; omega, fun e => by have := HVO.out q e; have := HQB.out; omega, ?_⟩
              have hs19 : s < 19 := by rw [HS19.out] at hs; exact hs
              rw [Nat.zero_add, HG.out.cell s hs19, HFS.out]
              simp only [hS, shortL_get B i (t + 14) s hs19]⟩)
            have hbr := HR.out.st.blk.lt
            have CS := Lib.hid (refCodes_small S (by rw [HS19.out]; decide) HS15.out b v _ wr RS.out hbr (fun k e => (HR.out.st.own.lt k e).2))
            clear hS
            go_wp2_with fail
            (with_reducible refine CS.out.mono ?_)
            intro en wc hc
            obtain ⟨hkc, ⟨hnt, rfl⟩ | ⟨hyt, cv, rfl, hrc⟩⟩ := hc
            · have HV := Lib.hid (HD3.out.trans (if_pos hnt))
              have HRc := Lib.hid (HR.out.kept hkc)
              have FAc := Lib.hid (fail_any HRc.out.st 3)
              clear hkc hnt
              go_wp2_with fail
              (with_reducible refine FAc.out.mono ?_)
              rintro en wd ⟨rfl, hsd⟩
              have HRd := Lib.hid (HRc.out.then (hsd.ef (show ef 0 3 = 3 from rfl)))
              have HE := Lib.hid (show (3 : Int) ≠ 0 by decide)
              obtain ⟨c0, c1, c2, c3⟩ := HRd.out.st.cells
              clear hsd
              go_wp2_with fail
              go_loopg [11] 1 (fun m lv wr => m = 1 ∧ lv = .slice none 0 0 ∧ wr = wd)
              case atStart => exact ⟨rfl, rfl, rfl⟩
              case round =>
                obtain ⟨hm, rfl, rfl⟩ := hrel
                have hpos : (0 : Int) < (x1 : Int) + 257 + ((x2 : Int) + 1) := by omega
                go_wp2_with fail
                go_ret2
                exact dynA_no HV.out HE.out HRd.out
            · have HD4 := Lib.hid (HD3.out.trans (if_neg (by rw [hyt]; simp)))
              have HRc := Lib.hid (HR.out.kept hkc)
              have FAc := Lib.hid (fail_any HRc.out.st 0)
              have RSc := Lib.hid (RS.out.gr (Gr.ofKept hkc))
              have RCc := Lib.hid hrc
              clear hkc hyt hrc
              go_wp2_with fail
              (with_reducible refine FAc.out.mono ?_)
              rintro en wd ⟨rfl, hsd⟩
              have HRd := Lib.hid (HRc.out.then (hsd.ef (show ef 0 0 = 0 from rfl)))
              have RSd := Lib.hid (RSc.out.gr hsd.gr)
              have RCd := Lib.hid (RCc.out.gr hsd.gr)
              clear hsd c0 c1 c2 c3
              obtain ⟨all, hall⟩ : ∃ all, all = x1 + 257 + (x2 + 1) := ⟨_, rfl⟩
              have HALL := Lib.hid hall
              have hallI : (x1 : Int) + 257 + ((x2 : Int) + 1) = (all : Int) := by omega
              have hal : all ≤ 316 := by omega
              have hal2 : 258 ≤ all := by omega
              rw [← hall, show t + 14 + 3 * i = tt from HTT.out.symm] at HD4
              obtain ⟨LG, hLG⟩ : ∃ LG, LG = lensGo S B all (all + 1) tt [] := ⟨_, rfl⟩
              rw [← hLG] at HD4
              have HLG := Lib.hid hLG
              have hbd := HRd.out.st.blk.lt
              have HVD := Lib.hid (fun k (e : v.ownBlock = some k) => (HRd.out.st.own.lt k e).2)
              clear hall hLG
              go_wp2_with fail
              go_loopg [11] (all + 1) (fun m lv wr => ∃ (f : Nat) (acc : List Nat) (tz : Nat) (e1 : Int), m = f ∧ Nums wr wd.heap.size lv acc ∧ SwR wd B0 b p c B v wr tz v out e1 ∧ acc.length ≤ 500 ∧ ((e1 = 0 ∧ acc.length ≤ all ∧ all < acc.length + f ∧ Hid (∀ x ∈ acc, x ≤ 15) ∧ Hid (lensGo S B all f tz acc = LG)) ∨ (e1 = 0 ∧ all < acc.length ∧ Hid (LG = .error 3)) ∨ (e1 ≠ 0 ∧ Hid (LG = .error e1))))
              case atStart => exact ⟨all + 1, [], tt, 0, rfl, World.ownsRow_nil _ _ _ _, SwR.refl HRd.out.st, by decide, .inl ⟨rfl, Nat.zero_le _, by simp, Lib.hid (by intro x hx; cases hx), Lib.hid HLG.out.symm⟩⟩
              case round =>
                obtain ⟨fz, acc, tz, e1, hmf, hnu, hsw, hla500, hst⟩ := hrel
                have NU := Lib.hid hnu
                have SW := Lib.hid hsw
                obtain ⟨sp, sc, hlv⟩ := hnu.shape
                obtain ⟨c0, c1, c2, c3⟩ := hsw.st.cells
                clear hnu hsw
                subst hlv
                rcases hst with ⟨rfl, hla, hfl, HX, HL0⟩ | ⟨rfl, hbig3, HL3⟩ | ⟨he1, HL3⟩
                · by_cases hacl : acc.length < all
                  · obtain ⟨f, rfl⟩ : ∃ f, fz = f + 1 := ⟨fz - 1, by omega⟩
                    have g0 : (acc.length : Int) < (all : Int) := by omega
                    have SY := Lib.hid (refSymbol_any S _ cv SW.out.st hB (RSd.out.gr SW.out.gr) (RCd.out.gr SW.out.gr) (by rw [HS19.out]; decide))
                    go_wp2_with fail
                    (with_reducible refine SY.out.mono ?_)
                    intro en w6 hsy
                    rcases hsy with ⟨s, t6, hr, rfl, hs6⟩ | ⟨k', t6, hr, hk0, rfl, hs6⟩
                    rotate_left
                    · have HN := Lib.hid (show LG = .error k' by rw [← HL0.out]; exact lens_no hacl hr)
                      have S6 := Lib.hid (SW.out.then hs6)
                      have N6 := Lib.hid (NU.out.gr hs6.gr hbd HVD.out)
                      obtain ⟨c0, c1, c2, c3⟩ := S6.out.st.cells
                      have f0 : (k' == 0) = false := by rw [beq_eq_false_iff_ne]; exact hk0
                      have HK0 := Lib.hid hk0
                      clear hs6 hr hk0
                      go_wp2_with fail
                      go_loopg [11, 15] 1 (fun m x iv wr => m = 1 ∧ x = .slice sp acc.length sc ∧ iv = .int .i64 0 ∧ wr = w6)
                      case atStart => exact ⟨rfl, rfl, rfl, rfl⟩
                      case round =>
                        obtain ⟨hm5, rfl, rfl, rfl⟩ := hrel
                        go_wp2_with fail
                        go_roundg f
                        case measure => omega
                        case rel => exact ⟨f, acc, t6, k', rfl, N6.out, S6.out, hla500, .inr (.inr ⟨HK0.out, HN⟩)⟩
                    · have HSY := Lib.hid hr
                      have hs19 : s < 19 := by have := (sym_in hr).1; rw [HS19.out] at this; exact this
                      have ht6 := (sym_in hr).2.2
                      have S6 := Lib.hid (SW.out.then hs6)
                      have N6 := Lib.hid (NU.out.gr hs6.gr hbd HVD.out)
                      obtain ⟨c0, c1, c2, c3⟩ := S6.out.st.cells
                      clear hs6 hr
                      by_cases e16 : s = 16
                      · have q16 : ((s : Int) == 16) = true := by rw [beq_iff_eq]; omega
                        by_cases h0 : acc.length = 0
                        · have q0 : ((acc.length : Int) == 0) = true := by rw [beq_iff_eq]; omega
                          have HN := Lib.hid (show LG = .error 3 by rw [← HL0.out]; exact lens_run hacl HSY.out (by unfold runV; rw [if_pos e16, if_pos h0]))
                          have FA6 := Lib.hid (fail_any S6.out.st 3)
                          have HK3 := Lib.hid (show (3 : Int) ≠ 0 by decide)
                          clear e16 h0
                          go_wp2_with fail
                          (with_reducible refine FA6.out.mono ?_)
                          rintro en w7 ⟨rfl, hs7⟩
                          have S7 := Lib.hid (S6.out.then (hs7.ef (show ef 0 3 = 3 from rfl)))
                          have N7 := Lib.hid (N6.out.gr hs7.gr hbd HVD.out)
                          obtain ⟨c0, c1, c2, c3⟩ := S7.out.st.cells
                          clear hs7
                          go_wp2_with fail
                          go_loopg [11, 15] 1 (fun m x iv wr => m = 1 ∧ x = .slice sp acc.length sc ∧ iv = .int .i64 0 ∧ wr = w7)
                          case atStart => exact ⟨rfl, rfl, rfl, rfl⟩
                          case round =>
                            obtain ⟨hm5, rfl, rfl, rfl⟩ := hrel
                            go_wp2_with fail
                            go_roundg f
                            case measure => omega
                            case rel => exact ⟨f, acc, t6, 3, rfl, N7.out, S7.out, hla500, .inr (.inr ⟨HK3.out, HN⟩)⟩
                        · have q0 : ((acc.length : Int) == 0) = false := by rw [beq_eq_false_iff_ne]; omega
                          obtain ⟨d, hd⟩ : ∃ d, acc.length = d + 1 := ⟨acc.length - 1, by omega⟩
                          obtain ⟨g, cap, hgv, hcap⟩ := N6.out.shapeS (by omega)
                          injection hgv with z1 z2 z3
                          subst z1
                          have hcd := N6.out.cell rfl d (by omega)
                          have HXL := Lib.hid (show acc.getD (acc.length - 1) 0 = acc[d]'(by omega) by rw [show acc.length - 1 = d by omega]; simp [List.getD, show d < acc.length by omega])
                          obtain ⟨nv, hnv⟩ : ∃ nv, nv = acc[d]'(by omega) := ⟨_, rfl⟩
                          rw [← hnv] at hcd HXL
                          have HNV := Lib.hid (show nv ≤ 15 by rw [hnv]; exact HX.out _ (List.getElem_mem _))
                          have y0 : (acc.length : Int) - 1 = (d : Int) := by omega
                          have y1 : (d : Int) < (acc.length : Int) := by omega
                          have y2 : IntKind.i64.wrap (d : Int) = (d : Int) := IntWalk.i64_in _ (by omega)
                          have y3 : (0 : Int) ≤ (d : Int) := by omega
                          have y4 : d < acc.length := by omega
                          have HRV := Lib.hid (show runV B s t6 acc = if t6 + 2 ≤ 8 * B.length then .ok (nv, 3 + numAt B 2 t6, t6 + 2) else .error 4 by unfold runV; rw [if_pos e16, if_neg h0, HXL.out])
                          have NB2 := Lib.hid (bits_fun 2 2 rfl S6.out.st (by decide) hB)
                          have HD' := Lib.hid hd
                          clear e16 h0 z2 z3 hnv hd hcap
                          go_wp2_with fail
                          (with_reducible refine NB2.out.mono ?_)
                          rintro en w7 ⟨xb, t7, e7, rfl, hxb, hs7, H7⟩
                          have S7 := Lib.hid (S6.out.then hs7)
                          have N7 := Lib.hid (N6.out.gr hs7.gr hbd HVD.out)
                          obtain ⟨c0, c1, c2, c3⟩ := S7.out.st.cells
                          have hxb2 : xb < 4 := hxb
                          clear hs7 hxb
                          rcases H7.out with ⟨r1, r2, r3, r4⟩ | ⟨r1, r3, r4⟩
                          · subst r4
                            obtain ⟨times, htimes⟩ : ∃ times, times = 3 + xb := ⟨_, rfl⟩
                            have htI : (3 : Int) + (xb : Int) = (times : Int) := by omega
                            have HRV2 := Lib.hid (show runV B s t6 acc = .ok (nv, times, t7) by rw [HRV.out, if_pos r1, htimes, r2, r3])
                            have ht138 : times ≤ 138 := by omega
                            have ht1 : 1 ≤ times := by omega
                            clear htimes r1 r2 r3
                            go_wp2_with fail
                            go_loopg [11, 15] (times + 1) (fun m x iv w' => ∃ j : Nat, m = times + 1 - j ∧ j ≤ times ∧ iv = .int .i64 j ∧ Nums w' wd.heap.size x (acc ++ List.replicate j nv) ∧ SwR wd B0 b p c B v w' t7 v out 0)
                            case atStart => exact ⟨0, rfl, Nat.zero_le _, rfl, by simpa using N7.out, S7.out⟩
                            case round =>
                              obtain ⟨j, hm5, hj, rfl, hn5, hs5⟩ := hrel
                              have N5 := Lib.hid hn5
                              have S5 := Lib.hid hs5
                              have hM5 := hs5.gr.size
                              have HL5 := Lib.hid (show (acc ++ List.replicate j nv).length = acc.length + j by rw [List.length_append, List.length_replicate])
                              obtain ⟨sp5, sc5, hv5⟩ := hn5.shape
                              subst hv5
                              obtain ⟨c0, c1, c2, c3⟩ := hs5.st.cells
                              clear hn5 hs5
                              by_cases hjt : j < times
                              · have gj : (j : Int) < ((times : Nat) : Int) := by omega
                                go_wp2_with (at_builtin; refine wpList_app_nums rfl _ _ rfl N5.out rfl [nv] _ rfl 1 rfl (by decide) rfl hM5 (by rw [HL5.out]; omega) ?_; intro g6 cap6 w6 hn6 hg6; have N6 := Lib.hid hn6; have GA := Lib.hid (SwR.app S5.out hbd HVD.out (fun k e => (World.ownsRow.lt N5.out k e).1) hg6); clear hn6 hg6)
                                go_roundg (times + 1 - (j + 1))
                                case measure => omega
                                case rel =>
                                  refine ⟨j + 1, rfl, by omega, by go_num, ?_, GA.out⟩
                                  have z := N6.out
                                  rw [List.append_assoc, show List.replicate j nv ++ [nv] = List.replicate (j + 1) nv by rw [List.replicate_succ']] at z
                                  have zl : (acc ++ List.replicate (j + 1) nv).length = (acc ++ List.replicate j nv).length + 1 := by simp; omega
                                  first
                                    | exact z
                                    | (rw [HL5.out] at z; exact z)
                                    | (simpa using z)
                              · obtain rfl : j = times := by omega
                                go_wp2_with fail
                                by_cases hmany : all - acc.length < j
                                · have HM5 := Lib.hid (show LG = .error 3 by rw [← HL0.out]; exact lens_many hacl HSY.out HRV2.out hmany)
                                  go_roundg f
                                  case measure => omega
                                  case rel => exact ⟨f, _, _, 0, rfl, N5.out, S5.out, by rw [HL5.out]; omega, .inr (.inl ⟨rfl, by rw [HL5.out]; omega, HM5⟩)⟩
                                · have HM5 := Lib.hid (show lensGo S B all f t7 (acc ++ List.replicate j nv) = LG by rw [← HL0.out]; exact (lens_step hacl HSY.out HRV2.out (by omega)).symm)
                                  have HX5 := Lib.hid (show ∀ x ∈ acc ++ List.replicate j nv, x ≤ 15 by
                                    intro x hx
                                    rw [List.mem_append, List.mem_replicate] at hx
                                    rcases hx with h2 | ⟨-, h2⟩
                                    · exact HX.out x h2
                                    · rw [h2]; exact HNV.out)
                                  go_roundg f
                                  case measure => omega
                                  case rel => exact ⟨f, _, _, 0, rfl, N5.out, S5.out, by rw [HL5.out]; omega, .inl ⟨rfl, by rw [HL5.out]; omega, by rw [HL5.out]; omega, HX5, HM5⟩⟩
                          · have e4 : ef 0 4 = 4 := rfl
                            rw [e4] at r4
                            subst r4
                            have HN := Lib.hid (show LG = .error 4 by rw [← HL0.out]; exact lens_run hacl HSY.out (by rw [HRV.out, if_neg r1]))
                            have HK4 := Lib.hid (show (4 : Int) ≠ 0 by decide)
                            clear r1 r3 e4
                            go_wp2_with fail
                            go_loopg [11, 15] 1 (fun m x iv wr => m = 1 ∧ x = .slice (some ⟨g, 0, none⟩) acc.length sc ∧ iv = .int .i64 0 ∧ wr = w7)
                            case atStart => exact ⟨rfl, rfl, rfl, rfl⟩
                            case round =>
                              obtain ⟨hm5, rfl, rfl, rfl⟩ := hrel
                              go_wp2_with fail
                              go_roundg f
                              case measure => omega
                              case rel => exact ⟨f, acc, t7, 4, rfl, N7.out, S7.out, hla500, .inr (.inr ⟨HK4.out, HN⟩)⟩
                      · have q16 : ((s : Int) == 16) = false := by rw [beq_eq_false_iff_ne]; omega
                        by_cases e17 : s = 17
                        · have q17 : ((s : Int) == 17) = true := by rw [beq_iff_eq]; omega
                          obtain ⟨nv, hnv⟩ : ∃ nv : Nat, nv = 0 := ⟨_, rfl⟩
                          have HNV := Lib.hid (show nv ≤ 15 by omega)
                          have HRV := Lib.hid (show runV B s t6 acc = if t6 + 3 ≤ 8 * B.length then .ok (0, 3 + numAt B 3 t6, t6 + 3) else .error 4 by unfold runV; rw [if_neg e16, if_pos e17])
                          have NB2 := Lib.hid (bits_fun 3 3 rfl S6.out.st (by decide) hB)
                          clear e16 e17 hnv HNV
                          have HNV := Lib.hid (show (0 : Nat) ≤ 15 by decide)
                          go_wp2_with fail
                          (with_reducible refine NB2.out.mono ?_)
                          rintro en w7 ⟨xb, t7, e7, rfl, hxb, hs7, H7⟩
                          have S7 := Lib.hid (S6.out.then hs7)
                          have N7 := Lib.hid (N6.out.gr hs7.gr hbd HVD.out)
                          obtain ⟨c0, c1, c2, c3⟩ := S7.out.st.cells
                          have hxb2 : xb < 8 := hxb
                          clear hs7 hxb
                          rcases H7.out with ⟨r1, r2, r3, r4⟩ | ⟨r1, r3, r4⟩
                          · subst r4
                            obtain ⟨times, htimes⟩ : ∃ times, times = 3 + xb := ⟨_, rfl⟩
                            have htI : (3 : Int) + (xb : Int) = (times : Int) := by omega
                            have HRV2 := Lib.hid (show runV B s t6 acc = .ok (0, times, t7) by rw [HRV.out, if_pos r1, htimes, r2, r3])
                            have ht138 : times ≤ 138 := by omega
                            have ht1 : 1 ≤ times := by omega
                            clear htimes r1 r2 r3
                            go_wp2_with fail
                            go_loopg [11, 15] (times + 1) (fun m x iv w' => ∃ j : Nat, m = times + 1 - j ∧ j ≤ times ∧ iv = .int .i64 j ∧ Nums w' wd.heap.size x (acc ++ List.replicate j 0) ∧ SwR wd B0 b p c B v w' t7 v out 0)
                            case atStart => exact ⟨0, rfl, Nat.zero_le _, rfl, by simpa using N7.out, S7.out⟩
                            case round =>
                              obtain ⟨j, hm5, hj, rfl, hn5, hs5⟩ := hrel
                              have N5 := Lib.hid hn5
                              have S5 := Lib.hid hs5
                              have hM5 := hs5.gr.size
                              have HL5 := Lib.hid (show (acc ++ List.replicate j 0).length = acc.length + j by rw [List.length_append, List.length_replicate])
                              obtain ⟨sp5, sc5, hv5⟩ := hn5.shape
                              subst hv5
                              obtain ⟨c0, c1, c2, c3⟩ := hs5.st.cells
                              clear hn5 hs5
                              by_cases hjt : j < times
                              · have gj : (j : Int) < ((times : Nat) : Int) := by omega
                                go_wp2_with (at_builtin; refine wpList_app_nums rfl _ _ rfl N5.out rfl [0] _ rfl 1 rfl (by decide) rfl hM5 (by rw [HL5.out]; omega) ?_; intro g6 cap6 w6 hn6 hg6; have N6 := Lib.hid hn6; have GA := Lib.hid (SwR.app S5.out hbd HVD.out (fun k e => (World.ownsRow.lt N5.out k e).1) hg6); clear hn6 hg6)
                                go_roundg (times + 1 - (j + 1))
                                case measure => omega
                                case rel =>
                                  refine ⟨j + 1, rfl, by omega, by go_num, ?_, GA.out⟩
                                  have z := N6.out
                                  rw [List.append_assoc, show List.replicate j 0 ++ [0] = List.replicate (j + 1) 0 by rw [List.replicate_succ']] at z
                                  have zl : (acc ++ List.replicate (j + 1) 0).length = (acc ++ List.replicate j 0).length + 1 := by simp; omega
                                  first
                                    | exact z
                                    | (rw [HL5.out] at z; exact z)
                                    | (simpa using z)
                              · obtain rfl : j = times := by omega
                                go_wp2_with fail
                                by_cases hmany : all - acc.length < j
                                · have HM5 := Lib.hid (show LG = .error 3 by rw [← HL0.out]; exact lens_many hacl HSY.out HRV2.out hmany)
                                  go_roundg f
                                  case measure => omega
                                  case rel => exact ⟨f, _, _, 0, rfl, N5.out, S5.out, by rw [HL5.out]; omega, .inr (.inl ⟨rfl, by rw [HL5.out]; omega, HM5⟩)⟩
                                · have HM5 := Lib.hid (show lensGo S B all f t7 (acc ++ List.replicate j 0) = LG by rw [← HL0.out]; exact (lens_step hacl HSY.out HRV2.out (by omega)).symm)
                                  have HX5 := Lib.hid (show ∀ x ∈ acc ++ List.replicate j 0, x ≤ 15 by
                                    intro x hx
                                    rw [List.mem_append, List.mem_replicate] at hx
                                    rcases hx with h2 | ⟨-, h2⟩
                                    · exact HX.out x h2
                                    · rw [h2]; exact HNV.out)
                                  go_roundg f
                                  case measure => omega
                                  case rel => exact ⟨f, _, _, 0, rfl, N5.out, S5.out, by rw [HL5.out]; omega, .inl ⟨rfl, by rw [HL5.out]; omega, by rw [HL5.out]; omega, HX5, HM5⟩⟩
                          · have e4 : ef 0 4 = 4 := rfl
                            rw [e4] at r4
                            subst r4
                            have HN := Lib.hid (show LG = .error 4 by rw [← HL0.out]; exact lens_run hacl HSY.out (by rw [HRV.out, if_neg r1]))
                            have HK4 := Lib.hid (show (4 : Int) ≠ 0 by decide)
                            clear r1 r3 e4
                            go_wp2_with fail
                            go_loopg [11, 15] 1 (fun m x iv wr => m = 1 ∧ x = .slice sp acc.length sc ∧ iv = .int .i64 0 ∧ wr = w7)
                            case atStart => exact ⟨rfl, rfl, rfl, rfl⟩
                            case round =>
                              obtain ⟨hm5, rfl, rfl, rfl⟩ := hrel
                              go_wp2_with fail
                              go_roundg f
                              case measure => omega
                              case rel => exact ⟨f, acc, t7, 4, rfl, N7.out, S7.out, hla500, .inr (.inr ⟨HK4.out, HN⟩)⟩
                        · have q17 : ((s : Int) == 17) = false := by rw [beq_eq_false_iff_ne]; omega
                          by_cases e18 : s = 18
                          · have q18 : ((s : Int) == 18) = true := by rw [beq_iff_eq]; omega
                            have HRV := Lib.hid (show runV B s t6 acc = if t6 + 7 ≤ 8 * B.length then .ok (0, 11 + numAt B 7 t6, t6 + 7) else .error 4 by unfold runV; rw [if_neg e16, if_neg e17, if_pos e18])
                            have NB2 := Lib.hid (bits_fun 7 7 rfl S6.out.st (by decide) hB)
                            clear e16 e17 e18
                            have HNV := Lib.hid (show (0 : Nat) ≤ 15 by decide)
                            go_wp2_with fail
                            (with_reducible refine NB2.out.mono ?_)
                            rintro en w7 ⟨xb, t7, e7, rfl, hxb, hs7, H7⟩
                            have S7 := Lib.hid (S6.out.then hs7)
                            have N7 := Lib.hid (N6.out.gr hs7.gr hbd HVD.out)
                            obtain ⟨c0, c1, c2, c3⟩ := S7.out.st.cells
                            have hxb2 : xb < 128 := hxb
                            clear hs7 hxb
                            rcases H7.out with ⟨r1, r2, r3, r4⟩ | ⟨r1, r3, r4⟩
                            · subst r4
                              obtain ⟨times, htimes⟩ : ∃ times, times = 11 + xb := ⟨_, rfl⟩
                              have htI : (11 : Int) + (xb : Int) = (times : Int) := by omega
                              have HRV2 := Lib.hid (show runV B s t6 acc = .ok (0, times, t7) by rw [HRV.out, if_pos r1, htimes, r2, r3])
                              have ht138 : times ≤ 138 := by omega
                              have ht1 : 1 ≤ times := by omega
                              clear htimes r1 r2 r3
                              go_wp2_with fail
                              go_loopg [11, 15] (times + 1) (fun m x iv w' => ∃ j : Nat, m = times + 1 - j ∧ j ≤ times ∧ iv = .int .i64 j ∧ Nums w' wd.heap.size x (acc ++ List.replicate j 0) ∧ SwR wd B0 b p c B v w' t7 v out 0)
                              case atStart => exact ⟨0, rfl, Nat.zero_le _, rfl, by simpa using N7.out, S7.out⟩
                              case round =>
                                obtain ⟨j, hm5, hj, rfl, hn5, hs5⟩ := hrel
                                have N5 := Lib.hid hn5
                                have S5 := Lib.hid hs5
                                have hM5 := hs5.gr.size
                                have HL5 := Lib.hid (show (acc ++ List.replicate j 0).length = acc.length + j by rw [List.length_append, List.length_replicate])
                                obtain ⟨sp5, sc5, hv5⟩ := hn5.shape
                                subst hv5
                                obtain ⟨c0, c1, c2, c3⟩ := hs5.st.cells
                                clear hn5 hs5
                                by_cases hjt : j < times
                                · have gj : (j : Int) < ((times : Nat) : Int) := by omega
                                  go_wp2_with (at_builtin; refine wpList_app_nums rfl _ _ rfl N5.out rfl [0] _ rfl 1 rfl (by decide) rfl hM5 (by rw [HL5.out]; omega) ?_; intro g6 cap6 w6 hn6 hg6; have N6 := Lib.hid hn6; have GA := Lib.hid (SwR.app S5.out hbd HVD.out (fun k e => (World.ownsRow.lt N5.out k e).1) hg6); clear hn6 hg6)
                                  go_roundg (times + 1 - (j + 1))
                                  case measure => omega
                                  case rel =>
                                    refine ⟨j + 1, rfl, by omega, by go_num, ?_, GA.out⟩
                                    have z := N6.out
                                    rw [List.append_assoc, show List.replicate j 0 ++ [0] = List.replicate (j + 1) 0 by rw [List.replicate_succ']] at z
                                    have zl : (acc ++ List.replicate (j + 1) 0).length = (acc ++ List.replicate j 0).length + 1 := by simp; omega
                                    first
                                      | exact z
                                      | (rw [HL5.out] at z; exact z)
                                      | (simpa using z)
                                · obtain rfl : j = times := by omega
                                  go_wp2_with fail
                                  by_cases hmany : all - acc.length < j
                                  · have HM5 := Lib.hid (show LG = .error 3 by rw [← HL0.out]; exact lens_many hacl HSY.out HRV2.out hmany)
                                    go_roundg f
                                    case measure => omega
                                    case rel => exact ⟨f, _, _, 0, rfl, N5.out, S5.out, by rw [HL5.out]; omega, .inr (.inl ⟨rfl, by rw [HL5.out]; omega, HM5⟩)⟩
                                  · have HM5 := Lib.hid (show lensGo S B all f t7 (acc ++ List.replicate j 0) = LG by rw [← HL0.out]; exact (lens_step hacl HSY.out HRV2.out (by omega)).symm)
                                    have HX5 := Lib.hid (show ∀ x ∈ acc ++ List.replicate j 0, x ≤ 15 by
                                      intro x hx
                                      rw [List.mem_append, List.mem_replicate] at hx
                                      rcases hx with h2 | ⟨-, h2⟩
                                      · exact HX.out x h2
                                      · rw [h2]; exact HNV.out)
                                    go_roundg f
                                    case measure => omega
                                    case rel => exact ⟨f, _, _, 0, rfl, N5.out, S5.out, by rw [HL5.out]; omega, .inl ⟨rfl, by rw [HL5.out]; omega, by rw [HL5.out]; omega, HX5, HM5⟩⟩
                            · have e4 : ef 0 4 = 4 := rfl
                              rw [e4] at r4
                              subst r4
                              have HN := Lib.hid (show LG = .error 4 by rw [← HL0.out]; exact lens_run hacl HSY.out (by rw [HRV.out, if_neg r1]))
                              have HK4 := Lib.hid (show (4 : Int) ≠ 0 by decide)
                              clear r1 r3 e4
                              go_wp2_with fail
                              go_loopg [11, 15] 1 (fun m x iv wr => m = 1 ∧ x = .slice sp acc.length sc ∧ iv = .int .i64 0 ∧ wr = w7)
                              case atStart => exact ⟨rfl, rfl, rfl, rfl⟩
                              case round =>
                                obtain ⟨hm5, rfl, rfl, rfl⟩ := hrel
                                go_wp2_with fail
                                go_roundg f
                                case measure => omega
                                case rel => exact ⟨f, acc, t7, 4, rfl, N7.out, S7.out, hla500, .inr (.inr ⟨HK4.out, HN⟩)⟩
                          · have q18 : ((s : Int) == 18) = false := by rw [beq_eq_false_iff_ne]; omega
                            have HRV := Lib.hid (show runV B s t6 acc = .ok (s, 1, t6) by unfold runV; rw [if_neg e16, if_neg e17, if_neg e18])
                            have HNV := Lib.hid (show s ≤ 15 by omega)
                            clear e16 e17 e18
                            have hM6 := S6.out.gr.size
                            go_wp2_with fail
                            go_loopg [11, 15] 2 (fun m x iv w' => (m = 2 ∧ iv = .int .i64 0 ∧ x = .slice sp acc.length sc ∧ w' = w6) ∨ (m = 1 ∧ iv = .int .i64 1 ∧ Nums w' wd.heap.size x (acc ++ [s]) ∧ SwR wd B0 b p c B v w' t6 v out 0))
                            case atStart => exact .inl ⟨rfl, rfl, rfl, rfl⟩
                            case round =>
                              rcases hrel with ⟨hm5, rfl, rfl, rfl⟩ | ⟨hm5, rfl, hn5, hs5⟩
                              · go_wp2_with (at_builtin; refine wpList_app_nums rfl _ _ rfl N6.out rfl [s] _ rfl 1 rfl (by decide) rfl hM6 (by omega) ?_; intro g6 cap6 w7 hn6 hg6; have N7 := Lib.hid hn6; have GA := Lib.hid (SwR.app S6.out hbd HVD.out (fun k e => (World.ownsRow.lt N6.out k e).1) hg6); clear hn6 hg6)
                                go_roundg 1
                                case measure => omega
                                case rel => exact .inr ⟨rfl, rfl, N7.out, GA.out⟩
                              · have N5 := Lib.hid hn5
                                have S5 := Lib.hid hs5
                                have HL5 := Lib.hid (show (acc ++ [s]).length = acc.length + 1 by simp)
                                obtain ⟨c0, c1, c2, c3⟩ := hs5.st.cells
                                clear hn5 hs5
                                go_wp2_with fail
                                have HM5 := Lib.hid (show lensGo S B all f t6 (acc ++ [s]) = LG by rw [← HL0.out]; exact (lens_step hacl HSY.out HRV.out (by omega)).symm)
                                have HX5 := Lib.hid (show ∀ x ∈ acc ++ [s], x ≤ 15 by
                                  intro x hx
                                  rw [List.mem_append, List.mem_singleton] at hx
                                  rcases hx with h2 | h2
                                  · exact HX.out x h2
                                  · rw [h2]; exact HNV.out)
                                go_roundg f
                                case measure => omega
                                case rel => exact ⟨f, _, _, 0, rfl, N5.out, S5.out, by rw [HL5.out]; omega, .inl ⟨rfl, by rw [HL5.out]; omega, by rw [HL5.out]; omega, HX5, HM5⟩⟩
                  · have hae : acc.length = all := by omega
                    obtain ⟨f, rfl⟩ : ∃ f, fz = f + 1 := ⟨fz - 1, by omega⟩
                    have HLE := Lib.hid (show LG = .ok (acc, tz) by rw [← HL0.out]; exact lens_end (by omega))
                    have HD5 := Lib.hid (show dynV B t = dynEnd (x1 + 257) (.ok (acc, tz)) by rw [HD4.out, HLE.out])
                    have g0 : ¬ (acc.length : Int) < (all : Int) := by omega
                    have g1 : ¬ (all : Int) < (acc.length : Int) := by omega
                    obtain ⟨g, cap, hgv, hcap⟩ := NU.out.shapeS (by omega)
                    injection hgv with z1 z2 z3
                    subst z1 z3
                    have c256 := NU.out.cell rfl 256 (by omega)
                    obtain ⟨x, hx⟩ : ∃ x, x = acc[256]'(by omega) := ⟨_, rfl⟩
                    rw [← hx] at c256
                    have HXX := Lib.hid (show acc.getD 256 0 = x by rw [hx]; exact getD_at acc 256 (by omega))
                    have y1 : (256 : Int) < (acc.length : Int) := by omega
                    have y2 : 256 < acc.length := by omega
                    clear z2 hx hacl
                    by_cases hx0 : x = 0
                    · have f0 : ((x : Int) == 0) = true := by rw [beq_iff_eq]; omega
                      have HV := Lib.hid (show dynV B t = .error 3 by rw [HD5.out, dynEnd, if_pos (by rw [HXX.out, hx0])])
                      have FA6 := Lib.hid (fail_any SW.out.st 3)
                      have HK3 := Lib.hid (show (3 : Int) ≠ 0 by decide)
                      clear hx0
                      go_wp2_with fail
                      (with_reducible refine FA6.out.mono ?_)
                      rintro en w7 ⟨rfl, hs7⟩
                      have S7 := Lib.hid (SW.out.then (hs7.ef (show ef 0 3 = 3 from rfl)))
                      obtain ⟨c0, c1, c2, c3⟩ := S7.out.st.cells
                      clear hs7
                      go_wp2_with fail
                      go_ret2
                      exact dynA_no HV.out HK3.out (HRd.out.then S7.out)
                    · have f0 : ((x : Int) == 0) = false := by rw [beq_eq_false_iff_ne]; omega
                      have HV := Lib.hid (show dynV B t = .ok (acc.take (x1 + 257), acc.drop (x1 + 257), tz) by rw [HD5.out, dynEnd, if_neg (by rw [HXX.out]; exact hx0)])
                      obtain ⟨N, hN⟩ : ∃ N, N = x1 + 257 := ⟨_, rfl⟩
                      have hNI : (x1 : Int) + 257 = (N : Int) := by omega
                      rw [← hN] at HV
                      have hNa : N < acc.length := by have := HALL.out; omega
                      have hallN : (N : Int) + ((x2 : Int) + 1) = (all : Int) := by omega
                      simp only [hNI]
                      have n1 : (0 : Int) ≤ (N : Int) := by omega
                      have n2 : (N : Int) ≤ (acc.length : Int) := by omega
                      have n3 : (acc.length : Int) ≤ (sc : Int) := by omega
                      have n4 : (N : Int) ≤ (sc : Int) := by omega
                      have n5' : N ≤ sc := by omega
                      have n6 : N ≤ acc.length := by omega
                      have n10 : ¬ sc = N := by omega
                      have HCAP := Lib.hid hcap
                      have HNA := Lib.hid hNa
                      clear hx0 hN hNI hcap
                      go_wp2_with fail
                      go_quiet (fail)
                      go_wp2_with fail
                      go_ret2
                      have hKN := (Kept.refl wr).drewN nq
                      refine ⟨_, _, rfl, .inl ⟨_, _, tz, HV.out, ?_, ?_, (HRd.out.then SW.out).kept hKN⟩⟩
                      · exact ((NU.out.kept hKN).ro rfl hbd HVD.out N sc (acc.take N) 0 (by rw [List.length_take]; omega) (fun i hi => by rw [List.length_take] at hi; rw [Nat.zero_add, List.getElem?_eq_getElem (by omega)]; simp))
                      · exact ((NU.out.kept hKN).ro rfl hbd HVD.out (all - N) (sc - N) (acc.drop N) N (by rw [List.length_drop, hae]) (fun i hi => by simp at hi; rw [List.getElem?_eq_getElem (by omega)]; simp))
                · have HV := Lib.hid (show dynV B t = .error 3 by rw [HD4.out, HL3.out]; rfl)
                  have g0 : ¬ (acc.length : Int) < (all : Int) := by omega
                  have g1 : (all : Int) < (acc.length : Int) := by omega
                  have FA6 := Lib.hid (fail_any SW.out.st 3)
                  have HK3 := Lib.hid (show (3 : Int) ≠ 0 by decide)
                  clear hbig3
                  go_wp2_with fail
                  (with_reducible refine FA6.out.mono ?_)
                  rintro en w7 ⟨rfl, hs7⟩
                  have S7 := Lib.hid (SW.out.then (hs7.ef (show ef 0 3 = 3 from rfl)))
                  obtain ⟨c0, c1, c2, c3⟩ := S7.out.st.cells
                  clear hs7
                  go_wp2_with fail
                  go_ret2
                  exact dynA_no HV.out HK3.out (HRd.out.then S7.out)
                · have HV := Lib.hid (show dynV B t = .error e1 by rw [HD4.out, HL3.out]; rfl)
                  have f0 : (e1 == 0) = false := by rw [beq_eq_false_iff_ne]; exact he1
                  have f1 : (e1 != 0) = true := by rw [bne_iff_ne]; exact he1
                  have HE1 := Lib.hid he1
                  clear he1
                  by_cases hlt2 : (acc.length : Int) < (all : Int)
                  · go_wp2_with fail
                    go_ret2
                    exact dynA_no HV.out HE1.out (HRd.out.then SW.out)
                  · go_wp2_with fail
                    go_ret2
                    exact dynA_no HV.out HE1.out (HRd.out.then SW.out)
        · have HE := Lib.hid he1
          have f0 : (e1 == 0) = false := by rw [beq_eq_false_iff_ne]; exact he1
          have f1 : (e1 != 0) = true := by rw [bne_iff_ne]; exact he1
          clear he1
          by_cases hlt : (i : Int) < (kk : Int)
          · skip
            have ISb := Lib.hid (show IntsR wr (some ⟨q, 0, none⟩) (((List.range 19).map F).map Int.ofNat) from (HG.out.fn _ (fun s hs => by simp [List.getD, hs])).ints (by simp))
            have CSb := Lib.hid (refCodes_any (((List.range 19).map F).map Int.ofNat) (some ⟨q, 0, none⟩) 19 wr ISb.out (by simp))
            have hl19b : (((List.range 19).map F).map Int.ofNat).length = 19 := by simp
            rw [hl19b] at CSb
            clear hl19b
            go_wp2_with fail
            (with_reducible refine CSb.out.mono ?_)
            intro en wc hca
            obtain ⟨hkc, hca⟩ := hca
            obtain ⟨cv, ce, hen⟩ : ∃ cv ce, en = .returned (.tuple #[cv, .int .i64 ce]) := by
              cases hv9 : codesV (((List.range 19).map F).map Int.ofNat) with
              | error k9 => rw [hv9] at hca; exact ⟨_, _, hca⟩
              | ok l9 => rw [hv9] at hca; obtain ⟨g9, h9, -⟩ := hca; exact ⟨_, _, h9⟩
            subst hen
            have HRc := Lib.hid ((HR.out).kept hkc)
            have FAc := Lib.hid (fail_any HRc.out.st ce)
            clear hca hkc
            go_wp2_with fail
            (with_reducible refine FAc.out.mono ?_)
            rintro en wd ⟨rfl, hsd⟩
            have HRd := Lib.hid (HRc.out.then (hsd.ef (ef_ne HE.out)))
            obtain ⟨c0, c1, c2, c3⟩ := HRd.out.st.cells
            clear hsd
            go_wp2_with fail
            go_loopg [11] 1 (fun m lv wr => m = 1 ∧ lv = .slice none 0 0 ∧ wr = wd)
            case atStart => exact ⟨rfl, rfl, rfl⟩
            case round =>
              obtain ⟨hm, rfl, rfl⟩ := hrel
              have hpos : (0 : Int) < (x1 : Int) + 257 + ((x2 : Int) + 1) := by omega
              go_wp2_with fail
              go_ret2
              exact dynA_no HV.out HE.out HRd.out
          · skip
            have ISc := Lib.hid (show IntsR wr (some ⟨q, 0, none⟩) (((List.range 19).map F).map Int.ofNat) from (HG.out.fn _ (fun s hs => by simp [List.getD, hs])).ints (by simp))
            have CSc := Lib.hid (refCodes_any (((List.range 19).map F).map Int.ofNat) (some ⟨q, 0, none⟩) 19 wr ISc.out (by simp))
            have hl19c : (((List.range 19).map F).map Int.ofNat).length = 19 := by simp
            rw [hl19c] at CSc
            clear hl19c
            go_wp2_with fail
            (with_reducible refine CSc.out.mono ?_)
            intro en wc hca
            obtain ⟨hkc, hca⟩ := hca
            obtain ⟨cv, ce, hen⟩ : ∃ cv ce, en = .returned (.tuple #[cv, .int .i64 ce]) := by
              cases hv9 : codesV (((List.range 19).map F).map Int.ofNat) with
              | error k9 => rw [hv9] at hca; exact ⟨_, _, hca⟩
              | ok l9 => rw [hv9] at hca; obtain ⟨g9, h9, -⟩ := hca; exact ⟨_, _, h9⟩
            subst hen
            have HRc := Lib.hid ((HR.out).kept hkc)
            have FAc := Lib.hid (fail_any HRc.out.st ce)
            clear hca hkc
            go_wp2_with fail
            (with_reducible refine FAc.out.mono ?_)
            rintro en wd ⟨rfl, hsd⟩
            have HRd := Lib.hid (HRc.out.then (hsd.ef (ef_ne HE.out)))
            obtain ⟨c0, c1, c2, c3⟩ := HRd.out.st.cells
            clear hsd
            go_wp2_with fail
            go_loopg [11] 1 (fun m lv wr => m = 1 ∧ lv = .slice none 0 0 ∧ wr = wd)
            case atStart => exact ⟨rfl, rfl, rfl⟩
            case round =>
              obtain ⟨hm, rfl, rfl⟩ := hrel
              have hpos : (0 : Int) < (x1 : Int) + 257 + ((x2 : Int) + 1) := by omega
              go_wp2_with fail
              go_ret2
              exact dynA_no HV.out HE.out HRd.out

end Go.Proofs.YtkobcgemllcfoaaDoor
