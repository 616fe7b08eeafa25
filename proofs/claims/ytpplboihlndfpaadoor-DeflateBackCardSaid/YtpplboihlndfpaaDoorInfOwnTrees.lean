/-
  A block's own trees: ownTrees.
-/
import Derived.Test.YtpplboihlndfpaaDoorInfOwn
import Derived.Test.YtpplboihlndfpaaDoorInfGiven
import Derived.Test.YtpplboihlndfpaaDoorDefMaths
import Derived.Lib.LaidTab
namespace Go.Proofs.YtpplboihlndfpaaDoor
open Go.RowKit Ix
set_option linter.unusedSimpArgs false
set_option linter.unusedVariables false

/-- The variable lengthsOrder is as it is laid. -/
def Ordd (w : World) : Prop := Lib.TabIs Tryd.prog w "inkstand/inflate.lengthsOrder" .i64 (ordL.map Int.ofNat)
theorem ordNamed : Tryd.prog.globalNamed "inkstand/inflate.lengthsOrder" = some 0 := by kernel_rfl
theorem Ordd.cell {w : World} (h : Ordd w) (i : Nat) (hi : i < 19) : w.cell? ⟨0, i, none⟩ = some (.int .i64 (ordL.getD i 0 : Nat)) := by
  have z := Lib.TabIs.cell h ordNamed i (by simpa [ordL] using hi)
  rw [z]
  congr 2
  rw [List.getD_eq_getElem?_getD, List.getD_eq_getElem?_getD, List.getElem?_map, List.getElem?_eq_getElem (show i < ordL.length from hi)]
  rfl
theorem Ordd.lt {w : World} (h : Ordd w) : 0 < w.heap.size := World.block_lt_of_cell? w _ (h.cell 0 (by decide))
theorem Ordd.same {w w' : World} (h : Ordd w) (k : w'.heap[0]? = w.heap[0]?) : Ordd w' := by
  unfold Ordd Lib.TabIs World.var? at *
  rw [ordNamed] at *
  simp only [Option.bind_some] at *
  rw [k]; exact h
theorem Ordd.kept {w w' : World} (h : Ordd w) (k : Kept w w') : Ordd w' := h.same (k.block _ h.lt)
theorem Ordd.gb {w w' : World} {b : Nat} (h : Ordd w) (g : w.grownBy w' (some b)) (hb : 0 < b) : Ordd w' := h.same (g.block _ h.lt (by intro e; injection e with e; omega))
theorem Ordd.below {w w' : World} {b : Nat} (h : Ordd w) (g : Below b w w') (hb : 0 < b) : Ordd w' := h.same (g.block _ hb)

theorem ord_lt (i : Nat) (hi : i < 19) : ordL.getD i 0 < 19 := by
  have key : (List.range 19).all (fun i => decide (ordL.getD i 0 < 19)) = true := by kernel_rfl
  have := List.all_eq_true.1 key i (List.mem_range.2 hi)
  rwa [decide_eq_true_eq] at this
/-- Lengths that are small have codes, or none. -/
theorem codesV_small (l : List Nat) (hl : l.length ≤ 320) (hx : ∀ x ∈ l, x ≤ 15) : codesV (l.map Int.ofNat) = if isTree l then .ok (codes l) else .error 3 := by
  have h1 : (l.map Int.ofNat).map Int.toNat = l := by
    rw [List.map_map]
    have : (Int.toNat ∘ Int.ofNat) = id := by funext x; rfl
    rw [this, List.map_id]
  have h2 : (l.map Int.ofNat).all inR = true := by
    rw [List.all_eq_true]
    intro y hy
    rw [List.mem_map] at hy
    obtain ⟨x, hx1, rfl⟩ := hy
    have := hx x hx1
    unfold inR
    rw [Bool.and_eq_true, decide_eq_true_eq, decide_eq_true_eq]
    exact ⟨Int.natCast_nonneg x, by show (x : Int) ≤ 15; omega⟩
  unfold codesV
  rw [if_neg (by rw [List.length_map]; omega), if_pos h2, h1]
/-- What treeOf leaves of such lengths. -/
def TreeS (l : List Nat) (w : World) (e : Ending) (w' : World) : Prop := Kept w w' ∧ ((isTree l = false ∧ e = .panicked (thrown 3)) ∨ (isTree l = true ∧ ∃ tb, e = .returned (.pointer (some ⟨tb, 0, none⟩)) ∧ Tree w' (fun b => w.heap.size ≤ b ∧ b < w'.heap.size) tb l))
theorem treeOf_small (l : List Nat) (hl : l.length ≤ 320) (hx : ∀ x ∈ l, x ≤ 15) (n : Nat) (hn : n = l.length) (p : Option Addr) (c : Nat) (w : World) (h : IntsR w p (l.map Int.ofNat)) :
    Calls Tryd.prog 113 #[.slice p n c] w (TreeS l w) := by
  subst hn
  have z := treeOf_any (l.map Int.ofNat) p c w h (by rw [List.length_map]; omega)
  rw [List.length_map] at z
  refine z.mono fun e w' ⟨hk, hr⟩ => ?_
  rw [codesV_small l hl hx] at hr
  refine ⟨hk, ?_⟩
  cases ht : isTree l with
  | false => rw [ht] at hr; exact .inl ⟨rfl, hr⟩
  | true =>
    rw [ht] at hr
    obtain ⟨tb, he, h2⟩ := hr
    have h1 : (l.map Int.ofNat).map Int.toNat = l := by
      rw [List.map_map]
      have : (Int.toNat ∘ Int.ofNat) = id := by funext x; rfl
      rw [this, List.map_id]
    rw [h1] at h2
    exact .inr ⟨rfl, tb, he, h2⟩
theorem TreeS.cases {l : List Nat} {w : World} {e : Ending} {w' : World} (h : TreeS l w e w') : (isTree l = false ∧ e = .panicked (thrown 3) ∧ Kept w w') ∨ ∃ tb, isTree l = true ∧ e = .returned (.pointer (some ⟨tb, 0, none⟩)) ∧ Tree w' (fun b => w.heap.size ≤ b ∧ b < w'.heap.size) tb l ∧ Kept w w' := by
  obtain ⟨hk, ⟨h1, h2⟩ | ⟨h1, tb, h2, h3⟩⟩ := h
  · exact .inl ⟨h1, h2, hk⟩
  · exact .inr ⟨tb, h1, h2, h3, hk⟩
theorem Arr.ints {w : World} {g n : Nat} {l : List Nat} {t : TypeId} (h : Arr w g n (fun i => ((l.getD i 0 : Nat) : Int)) t) (hn : n = l.length) : IntsR w (some ⟨g, 0, none⟩) (l.map Int.ofNat) := by
  intro i hi
  rw [List.length_map] at hi
  refine ⟨g, 0, rfl, h.lt, ?_⟩
  rw [Nat.zero_add, h.cell i (by omega)]
  simp [List.getD, hi]
theorem Nums.ints {w : World} {B1 g n cap : Nat} {l : List Nat} (h : Nums w B1 (.slice (some ⟨g, 0, none⟩) n cap) l) (hn : n = l.length) : IntsR w (some ⟨g, 0, none⟩) (l.map Int.ofNat) := by
  intro i hi
  rw [List.length_map] at hi
  refine ⟨g, 0, rfl, (World.ownsRow.lt h g rfl).2, ?_⟩
  rw [Nat.zero_add, h.cell hn i hi]
  simp [hi]
theorem Nums.intsDrop {w : World} {B1 g n cap : Nat} {l : List Nat} (h : Nums w B1 (.slice (some ⟨g, 0, none⟩) n cap) l) (hn : n = l.length) (j : Nat) : IntsR w (some ⟨g, j, none⟩) ((l.drop j).map Int.ofNat) := by
  intro i hi
  rw [List.length_map, List.length_drop] at hi
  refine ⟨g, j, rfl, (World.ownsRow.lt h g rfl).2, ?_⟩
  rw [h.cell hn (j + i) (by omega)]
  simp
theorem IntsR.take {w : World} {p : Option Addr} {l : List Nat} (h : IntsR w p (l.map Int.ofNat)) (j : Nat) : IntsR w p ((l.take j).map Int.ofNat) := by
  intro i hi
  rw [List.length_map, List.length_take] at hi
  obtain ⟨k, o, hp, hk, hc⟩ := h i (by rw [List.length_map]; omega)
  exact ⟨k, o, hp, hk, by rw [hc]; simp⟩

/-- What ownTrees leaves. -/
def OwnA (w : World) (B0 b : Nat) (p : Option Addr) (c : Nat) (B : List UInt8) (v gv : Value) (out : List UInt8) (r : Except Int (List Nat × List Nat × Nat)) (e : Ending) (w' : World) : Prop := match r with
  | .error k => e = .panicked (thrown k) ∧ w.grownBy w' (some b)
  | .ok (S, D, t') => ∃ (ts td : Nat) (f : Nat → Prop), e = .returned (.agg #[.pointer (some ⟨ts, 0, none⟩), .pointer (some ⟨td, 0, none⟩)]) ∧ Ou w' B0 b p c B t' v out gv ∧ (∀ j, f j → b < j ∧ v.ownBlock ≠ some j) ∧ Tree w' f ts S ∧ Tree w' f td D ∧ w.grownBy w' (some b) ∧ t' ≤ 8 * B.length
theorem ownA_no {w : World} {B0 b : Nat} {p : Option Addr} {c : Nat} {B : List UInt8} {v gv : Value} {out : List UInt8} {r : Except Int (List Nat × List Nat × Nat)} {k : Int} {w' : World} (hr : r = .error k) (g : w.grownBy w' (some b)) : OwnA w B0 b p c B v gv out r (.panicked (thrown k)) w' := by
  subst hr; exact ⟨rfl, g⟩
theorem OwnA.cases {w : World} {B0 b : Nat} {p : Option Addr} {c : Nat} {B : List UInt8} {v gv : Value} {out : List UInt8} {r : Except Int (List Nat × List Nat × Nat)} {e : Ending} {w' : World} (h : OwnA w B0 b p c B v gv out r e w') :
    (∃ k, r = .error k ∧ e = .panicked (thrown k) ∧ w.grownBy w' (some b)) ∨ ∃ S D t' ts td f, r = .ok (S, D, t') ∧ e = .returned (.agg #[.pointer (some ⟨ts, 0, none⟩), .pointer (some ⟨td, 0, none⟩)]) ∧ Ou w' B0 b p c B t' v out gv ∧ (∀ j, f j → b < j ∧ v.ownBlock ≠ some j) ∧ Tree w' f ts S ∧ Tree w' f td D ∧ w.grownBy w' (some b) ∧ t' ≤ 8 * B.length := by
  unfold OwnA at h
  rcases r with k | ⟨S, D, t'⟩
  · exact .inl ⟨k, rfl, h⟩
  · obtain ⟨ts, td, f, h⟩ := h
    exact .inr ⟨S, D, t', ts, td, f, rfl, h⟩
theorem ownV_short {B : List UInt8} {t : Nat} (h : ¬ t + 14 ≤ 8 * B.length) : ownV B t = .error 4 := by unfold ownV; rw [if_neg h]
theorem gbB {w wr w' : World} {b k : Nat} (h : w.grownBy wr (some b)) (hk : w.heap.size ≤ k) (g : wr.grownBy w' (some k)) : w.grownBy w' (some b) := by
  refine ⟨g.os.trans h.os, g.tape.trans h.tape, g.output.trans h.output, Nat.le_trans h.size g.size, fun j hj hn => (g.block j (Nat.lt_of_lt_of_le hj h.size) (by intro e; injection e with e; omega)).trans (h.block j hj hn)⟩
/-- A store into a block of the call's own. -/
theorem biR_set {w wr : World} {B0 b : Nat} {p : Option Addr} {c : Nat} {B : List UInt8} {t : Nat} {ov gv : Value} (h : BiR w B0 b p c B t ov gv wr) (hb : b < w.heap.size) {g : Nat} (hg : w.heap.size ≤ g) (o : Nat) (x : Value) : BiR w B0 b p c B t ov gv (wr.setCell ⟨g, o, none⟩ x) := by
  have hl := h.1.low
  have key : ∀ j, j ≠ g → (wr.setCell ⟨g, o, none⟩ x).heap[j]? = wr.heap[j]? := fun j hne => Below.heap_setCell wr ⟨g, o, none⟩ x j hne
  refine ⟨⟨(key b (by omega)).trans h.1.blk, fun i hi => ?_, hl⟩, gbB h.2 hg (gbS _ _ _ _)⟩
  obtain ⟨kb, o', hp, hk, hc⟩ := h.1.byt i hi
  exact ⟨kb, o', hp, hk, by rw [← hc]; exact World.cell?_of_block (key kb (by omega))⟩
theorem biR_kept {w wr w' : World} {B0 b : Nat} {p : Option Addr} {c : Nat} {B : List UInt8} {t : Nat} {ov gv : Value} (h : BiR w B0 b p c B t ov gv wr) (k : Kept wr w') : BiR w B0 b p c B t ov gv w' := ⟨h.1.kept k, gbT h.2 (gbK k _)⟩

set_option maxRecDepth 100000 in
set_option maxHeartbeats 8000000 in
theorem ownTrees_any {w : World} {B0 b : Nat} {p : Option Addr} {c : Nat} {B : List UInt8} {t : Nat} {v gv : Value} {out : List UInt8} (h : Ou w B0 b p c B t v out gv) (h8 : t ≤ 8 * B.length) (hB : B.length ≤ 1099511627776) (ho : Ordd w) (hob : 0 < b) :
    Calls Tryd.prog 81 #[.pointer (some ⟨b, 0, none⟩)] w (OwnA w B0 b p c B v gv out (ownV B t)) := by
  have hp := run_thrown
  have HO := Lib.hid h
  have hbl := h.bi.blk.lt
  have HOR := Lib.hid ho
  have HOB := Lib.hid hob
  clear h ho hob
  go_enter Tryd.func81, Tryd.ntmps81
  go_wp2_with fail
  have KA := Lib.hid (show Kept w (w.alloc (.cells #[.pointer none, .pointer none] 114)) from (Kept.refl w).allocO _)
  have RB := Lib.hid (Blk.fresh w #[.pointer none, .pointer none] 114)
  obtain ⟨W0, hW0⟩ : ∃ W0, W0 = w.alloc (.cells #[.pointer none, .pointer none] 114) := ⟨_, rfl⟩
  obtain ⟨r, hr⟩ : ∃ r, r = w.heap.size := ⟨_, rfl⟩
  have HR := Lib.hid hr
  rw [← hW0] at KA RB ⊢
  simp only [← hr] at RB hbl ⊢
  clear hW0 hr
  have BI0 := Lib.hid (show BiR w B0 b p c B t v gv W0 from ⟨HO.out.bi.kept KA.out, gbK KA.out _⟩)
  have N1 := Lib.hid (number_lit 5 5 rfl (by decide) BI0.out.1 h8 hB)
  (with_reducible refine N1.out.mono ?_)
  intro e w1 hs1
  rcases numV_cases B 5 t with ⟨hle1, hn1⟩ | ⟨hle1, hn1⟩
  rotate_left
  · rw [hn1] at hs1
    obtain ⟨rfl, hg1⟩ := hs1
    have HV := Lib.hid (ownV_short (B := B) (t := t) (by omega))
    have G1 := Lib.hid (gbT BI0.out.2 hg1)
    clear hg1 hn1
    go_wp2_with fail
    exact ⟨rfl, ownA_no HV.out G1.out⟩
  rw [hn1] at hs1
  have bn := numAt_lt B t 5
  obtain ⟨n5, hn5⟩ : ∃ n5, n5 = numAt B 5 t := ⟨_, rfl⟩
  have HN5 := Lib.hid hn5
  rw [← hn5] at hs1 bn
  obtain ⟨rfl, hb1, -⟩ := hs1
  have BI1 := Lib.hid (show BiR w B0 b p c B (t + 5) v gv w1 from ⟨hb1.1, gbT BI0.out.2 hb1.2⟩)
  have R1 := Lib.hid (show Blk w1 r #[.pointer none, .pointer none] 114 from (hb1.2.block r RB.out.lt (by intro e; injection e with e; omega)).trans RB.out)
  have N2 := Lib.hid (number_lit 5 5 rfl (by decide) BI1.out.1 hle1 hB)
  clear hb1 hn1 hn5 N1
  go_wp2_with fail
  (with_reducible refine N2.out.mono ?_)
  intro e w2 hs2
  rcases numV_cases B 5 (t + 5) with ⟨hle2, hn2⟩ | ⟨hle2, hn2⟩
  rotate_left
  · rw [hn2] at hs2
    obtain ⟨rfl, hg2⟩ := hs2
    have HV := Lib.hid (ownV_short (B := B) (t := t) (by omega))
    have G2 := Lib.hid (gbT BI1.out.2 hg2)
    clear hg2 hn2
    go_wp2_with fail
    exact ⟨rfl, ownA_no HV.out G2.out⟩
  rw [hn2] at hs2
  have bm := numAt_lt B (t + 5) 5
  obtain ⟨m5, hm5⟩ : ∃ m5, m5 = numAt B 5 (t + 5) := ⟨_, rfl⟩
  have HM5 := Lib.hid hm5
  rw [← hm5] at hs2 bm
  obtain ⟨rfl, hb2, -⟩ := hs2
  have BI2 := Lib.hid (show BiR w B0 b p c B (t + 5 + 5) v gv w2 from ⟨hb2.1, gbT BI1.out.2 hb2.2⟩)
  have R2 := Lib.hid (show Blk w2 r #[.pointer none, .pointer none] 114 from (hb2.2.block r R1.out.lt (by intro e; injection e with e; omega)).trans R1.out)
  have N3 := Lib.hid (number_lit 4 4 rfl (by decide) BI2.out.1 hle2 hB)
  clear hb2 hn2 hm5 N2
  go_wp2_with fail
  (with_reducible refine N3.out.mono ?_)
  intro e w3 hs3
  rcases numV_cases B 4 (t + 5 + 5) with ⟨hle3, hn3⟩ | ⟨hle3, hn3⟩
  rotate_left
  · rw [hn3] at hs3
    obtain ⟨rfl, hg3⟩ := hs3
    have HV := Lib.hid (ownV_short (B := B) (t := t) (by omega))
    have G3 := Lib.hid (gbT BI2.out.2 hg3)
    clear hg3 hn3
    go_wp2_with fail
    exact ⟨rfl, ownA_no HV.out G3.out⟩
  rw [hn3] at hs3
  have bk := numAt_lt B (t + 5 + 5) 4
  obtain ⟨k4, hk4⟩ : ∃ k4, k4 = numAt B 4 (t + 5 + 5) := ⟨_, rfl⟩
  have HK4 := Lib.hid (show k4 = numAt B 4 (t + 10) from hk4)
  rw [← hk4] at hs3 bk
  obtain ⟨rfl, hb3, -⟩ := hs3
  have BI3 := Lib.hid (show BiR w B0 b p c B (t + 14) v gv w3 from ⟨hb3.1, gbT BI2.out.2 hb3.2⟩)
  have R3 := Lib.hid (show Blk w3 r #[.pointer none, .pointer none] 114 from (hb3.2.block r R2.out.lt (by intro e; injection e with e; omega)).trans R2.out)
  have HOV := Lib.hid (show ownV B t = if 286 < n5 + 257 ∨ 30 < m5 + 1 then .error 3 else if t + 14 + 3 * (k4 + 4) ≤ 8 * B.length then
      if isTree (shortL B (k4 + 4) (t + 14)) = false then .error 3 else ownEnd (n5 + 257) (lensGo (shortL B (k4 + 4) (t + 14)) B (n5 + 257 + (m5 + 1)) (n5 + 257 + (m5 + 1) + 1) (t + 14 + 3 * (k4 + 4)) []) else .error 4 by
    unfold ownV
    rw [← HN5.out, ← HM5.out, ← HK4.out, if_pos (by omega)])
  clear hb3 hn3 hk4 N3 BI0 BI1 BI2 R1 R2 RB HN5 HM5 HK4
  by_cases hbig : 286 < n5 + 257 ∨ 30 < m5 + 1
  · have HV := Lib.hid (show ownV B t = .error 3 by rw [HOV.out, if_pos hbig])
    by_cases hb1 : 286 < n5 + 257
    · have i1 : (286 : Int) < (n5 : Int) + 257 := by omega
      clear hbig hb1
      go_wp2_with fail
      exact ⟨rfl, ownA_no HV.out BI3.out.2⟩
    · have i1 : ¬ (286 : Int) < (n5 : Int) + 257 := by omega
      have i2 : (30 : Int) < (m5 : Int) + 1 := by omega
      clear hbig hb1
      go_wp2_with fail
      exact ⟨rfl, ownA_no HV.out BI3.out.2⟩
  have i1 : ¬ (286 : Int) < (n5 : Int) + 257 := by omega
  have i2 : ¬ (30 : Int) < (m5 : Int) + 1 := by omega
  have HOV2 := Lib.hid (HOV.out.trans (if_neg hbig))
  have hn286 : n5 + 257 ≤ 286 := by omega
  have hm30 : m5 + 1 ≤ 30 := by omega
  clear hbig HOV
  obtain ⟨i0, hi, hz0, hz1, hz2⟩ := info_parts info_int
  have hsz3 := BI3.out.2.size
  go_wp2_with (at_make; refine wpList_make_full _ rfl _ _ 74 rfl r 3 i0 (.int .i64 0) 1 Tryd.underlying74 hi hz0 hz1 .i64 .i64 _ _ 19 rfl rfl rfl rfl (by rw [hz2]; decide) (by decide) (by rw [HR.out]; exact hsz3) ?_; intro w4 hown hgrow)
  have G4 := Lib.hid (arr_made hown)
  have K4 := Lib.hid (show Kept w3 w4 from Below.grown (Kept.refl w3) hgrow (Nat.le_refl _) (fun k h => by cases h))
  have hr3 := R3.out.lt
  obtain ⟨q, hq⟩ : ∃ q, q = w3.heap.size := ⟨_, rfl⟩
  rw [← hq] at G4 hr3 ⊢
  have hrq : r < q := hr3
  have BI4 := Lib.hid (biR_kept BI3.out K4.out)
  have R4 := Lib.hid (R3.out.kept K4.out)
  clear hown hgrow hi hz0 hz1 hz2 hq hr3 hsz3 BI3 R3 K4
  obtain ⟨kk, hkk⟩ : ∃ kk, kk = k4 + 4 := ⟨_, rfl⟩
  have hkI : (k4 : Int) + 4 = (kk : Int) := by omega
  have hk19 : kk ≤ 19 := by omega
  rw [← hkk] at HOV2
  simp only [hkI]
  clear hkk hkI bk
  go_loopg [33] (kk + 1) (fun m iv wr => ∃ i : Nat, m = kk + 1 - i ∧ i ≤ kk ∧ iv = .int .i64 i ∧ BiR w B0 b p c B (t + 14 + 3 * i) v gv wr ∧ t + 14 + 3 * i ≤ 8 * B.length ∧ Blk wr r #[.pointer none, .pointer none] 114 ∧ Arr wr q 19 (fun s => ((shortTo B (t + 14) i s : Nat) : Int)) 3)
  case atStart => exact ⟨0, rfl, Nat.zero_le _, rfl, BI4.out, by omega, R4.out, G4.out.fn _ fun i hi => rfl⟩
  case round =>
    obtain ⟨i, hm, hi, rfl, hbi, hti, hrb, hg⟩ := hrel
    have BI := Lib.hid hbi
    have RB := Lib.hid hrb
    have HG := Lib.hid hg
    have HOW := Lib.hid (HOR.out.gb hbi.2 HOB.out)
    clear hbi hrb hg
    by_cases hlt : i < kk
    · have hoc := HOW.out.cell i (by omega)
      have hol := HOW.out.lt
      have ho19 := ord_lt i (by omega)
      obtain ⟨o, hoo⟩ : ∃ o, o = ordL.getD i 0 := ⟨_, rfl⟩
      rw [← hoo] at hoc ho19
      have HOO := Lib.hid hoo
      have hi2 : (0 : Int) ≤ (i : Int) := by omega
      have hi3 : (i : Int) < 19 := by omega
      have ho2 : (0 : Int) ≤ (o : Int) := by omega
      have ho3 : (o : Int) < 19 := by omega
      have ho4 : o < 19 := ho19
      have hgq := HG.out.lt
      have hqb : b ≠ q := by omega
      clear hoo
      by_cases ht3 : t + 14 + 3 * i + 3 ≤ 8 * B.length
      · have NO := Lib.hid (fun w' (k : Kept wr w') => number_okL 3 3 rfl (by decide) (BI.out.1.kept k) ht3 hB)
        have bx := numAt_lt B (t + 14 + 3 * i) 3
        obtain ⟨x, hx⟩ : ∃ x, x = numAt B 3 (t + 14 + 3 * i) := ⟨_, rfl⟩
        have HX := Lib.hid hx
        rw [← hx] at NO bx
        clear hx
        go_wp2_with fail
        refine wp_region_any (by kernel_rfl) ?_
        change wpAny _ _ _ _ _ _ _ (World.drew _)
        refine wpAny_take (i := 0) (v := ?_) rfl (by kernel_rfl) (by kernel_rfl) (by kernel_rfl) (fun _ _ _ h => h) (Or.inl ⟨by rfl, (by intro w; go_simp; try with_reducible rfl)⟩) ?_
        refine wpAny_take (i := 1) (v := ?_) rfl (by kernel_rfl) (by kernel_rfl) (by kernel_rfl) (fun _ _ _ h => h) (Or.inl ⟨by rfl, (by intro w; go_simp; try with_reducible rfl)⟩) ?_
        refine wpAny_take (i := 2) (v := ?_) rfl (by kernel_rfl) (by kernel_rfl) (by kernel_rfl) (fun _ _ _ h => h) (Or.inl ⟨by rfl, (by intro w; go_simp; try with_reducible rfl)⟩) ?_
        refine wpAny_take (i := 4) (v := ?_) rfl (by kernel_rfl) (by kernel_rfl) (by kernel_rfl) (fun _ _ _ h => h) (Or.inl ⟨by rfl, (by intro w; go_simp; try with_reducible rfl)⟩) ?_
        refine wpAny_take (i := 5) (v := ?_) rfl (by kernel_rfl) (by kernel_rfl) (by kernel_rfl) (fun _ _ _ h => h) (Or.inl ⟨by rfl, (by intro w; go_simp; try with_reducible rfl)⟩) ?_
        refine wpAny_take (i := 6) (v := ?_) rfl (by kernel_rfl) (by kernel_rfl) (by kernel_rfl) (fun _ _ _ h => h) (Or.inl ⟨by rfl, (by intro w; go_simp; try with_reducible rfl)⟩) ?_
        refine wpAny_ready (rs := [3, 7]) (by kernel_rfl) (by simp) ?_
        refine AllReady.cons rfl (fun K hK => ?_) (AllReady.cons rfl (fun K hK => ?_) AllReady.nil)
        · go_simp
          refine hK _ _ ?_
          clear hK K
          refine wpAny_ready (rs := [7]) (by kernel_rfl) (by simp) ?_
          refine AllReady.cons rfl (fun K hK => ?_) AllReady.nil
          go_simp
          go_wp2_with fail
          (with_reducible refine (NO.out _ (Kept.refl wr).drew).mono ?_)
          rintro e w5 ⟨rfl, hb5⟩
          have G5 := Lib.hid (gbT (gbK (Kept.refl wr).drew (some b)) hb5.2)
          have BI5 := Lib.hid (show BiR w B0 b p c B (t + 14 + 3 * i + 3) v gv w5 from ⟨hb5.1, gbT BI.out.2 G5.out⟩)
          have RB5 := Lib.hid (show Blk w5 r #[.pointer none, .pointer none] 114 from (G5.out.block r RB.out.lt (by intro e; injection e with e; omega)).trans RB.out)
          have HG5 := Lib.hid (show Arr w5 q 19 (fun s => ((shortTo B (t + 14) i s : Nat) : Int)) 3 from HG.out.gb G5.out (by intro e; injection e with e; omega))
          have d0 := HG5.out.cell o ho4
          have d1 := HG5.out.free
          have d2 := HG5.out.lt
          have hoc5 : w5.cell? ⟨0, i, none⟩ = some (.int .i64 (o : Int)) := by rw [← hoc]; exact World.cell?_of_block (G5.out.block _ hol (by intro e; injection e with e; have e2 : 0 = b := e; have := HOB.out; omega))
          clear hb5
          go_wp2_with fail
          refine wpAny_take (i := 8) (v := ?_) rfl (by kernel_rfl) (by kernel_rfl) (by kernel_rfl) (fun _ _ _ h => h) (Or.inl ⟨by rfl, (by intro w; go_simp; try with_reducible rfl)⟩) ?_
          refine wpAny_ready (rs := [9]) (by kernel_rfl) (by simp) ?_
          refine AllReady.cons rfl (fun K hK => ?_) AllReady.nil
          go_simp
          refine hK _ _ ?_
          clear hK K
          refine wpAny_done (by kernel_rfl) ?_ _
          go_wp2_with fail
          go_roundg (kk + 1 - (i + 1))
          case measure => omega
          case rel =>
            refine ⟨i + 1, rfl, by omega, by go_num, ?_, by omega, ?_, ?_⟩
            · have z := biR_set BI5.out (by rw [← HR.out]; exact hbl) (g := q) (by rw [← HR.out]; omega) o (.int .i64 (x : Int))
              rw [show t + 14 + 3 * (i + 1) = t + 14 + 3 * i + 3 by omega]
              exact z
            · exact RB5.out.other (by omega) _
            · refine (HG5.out.set o (x : Int)).fn _ fun s hs => ?_
              show (if s = o then (x : Int) else ((shortTo B (t + 14) i s : Nat) : Int)) = ((shortTo B (t + 14) (i + 1) s : Nat) : Int)
              rw [shortTo, ← HOO.out, ← HX.out]
              split <;> rfl
        · go_simp
          go_wp2_with fail
          (with_reducible refine (NO.out _ (Kept.refl wr).drew).mono ?_)
          rintro e w5 ⟨rfl, hb5⟩
          have G5 := Lib.hid (gbT (gbK (Kept.refl wr).drew (some b)) hb5.2)
          have BI5 := Lib.hid (show BiR w B0 b p c B (t + 14 + 3 * i + 3) v gv w5 from ⟨hb5.1, gbT BI.out.2 G5.out⟩)
          have RB5 := Lib.hid (show Blk w5 r #[.pointer none, .pointer none] 114 from (G5.out.block r RB.out.lt (by intro e; injection e with e; omega)).trans RB.out)
          have HG5 := Lib.hid (show Arr w5 q 19 (fun s => ((shortTo B (t + 14) i s : Nat) : Int)) 3 from HG.out.gb G5.out (by intro e; injection e with e; omega))
          have d0 := HG5.out.cell o ho4
          have d1 := HG5.out.free
          have d2 := HG5.out.lt
          have hoc5 : w5.cell? ⟨0, i, none⟩ = some (.int .i64 (o : Int)) := by rw [← hoc]; exact World.cell?_of_block (G5.out.block _ hol (by intro e; injection e with e; have e2 : 0 = b := e; have := HOB.out; omega))
          clear hb5
          go_wp2_with fail
          refine wpAny_ready (rs := [3]) (by kernel_rfl) (by simp) ?_
          refine AllReady.cons rfl (fun K hK => ?_) AllReady.nil
          go_simp
          refine hK _ _ ?_
          clear hK K
          refine wpAny_take (i := 8) (v := ?_) rfl (by kernel_rfl) (by kernel_rfl) (by kernel_rfl) (fun _ _ _ h => h) (Or.inl ⟨by rfl, (by intro w; go_simp; try with_reducible rfl)⟩) ?_
          refine wpAny_ready (rs := [9]) (by kernel_rfl) (by simp) ?_
          refine AllReady.cons rfl (fun K hK => ?_) AllReady.nil
          go_simp
          refine hK _ _ ?_
          clear hK K
          refine wpAny_done (by kernel_rfl) ?_ _
          go_wp2_with fail
          go_roundg (kk + 1 - (i + 1))
          case measure => omega
          case rel =>
            refine ⟨i + 1, rfl, by omega, by go_num, ?_, by omega, ?_, ?_⟩
            · have z := biR_set BI5.out (by rw [← HR.out]; exact hbl) (g := q) (by rw [← HR.out]; omega) o (.int .i64 (x : Int))
              rw [show t + 14 + 3 * (i + 1) = t + 14 + 3 * i + 3 by omega]
              exact z
            · exact RB5.out.other (by omega) _
            · refine (HG5.out.set o (x : Int)).fn _ fun s hs => ?_
              show (if s = o then (x : Int) else ((shortTo B (t + 14) i s : Nat) : Int)) = ((shortTo B (t + 14) (i + 1) s : Nat) : Int)
              rw [shortTo, ← HOO.out, ← HX.out]
              split <;> rfl
      · have NO := Lib.hid (fun w' (k : Kept wr w') => number_noL 3 3 rfl (by decide) (BI.out.1.kept k) hti (by omega) hB)
        have HV := Lib.hid (show ownV B t = .error 4 by rw [HOV2.out, if_neg (by omega)])
        go_wp2_with fail
        refine wp_region_any (by kernel_rfl) ?_
        change wpAny _ _ _ _ _ _ _ (World.drew _)
        refine wpAny_take (i := 0) (v := ?_) rfl (by kernel_rfl) (by kernel_rfl) (by kernel_rfl) (fun _ _ _ h => h) (Or.inl ⟨by rfl, (by intro w; go_simp; try with_reducible rfl)⟩) ?_
        refine wpAny_take (i := 1) (v := ?_) rfl (by kernel_rfl) (by kernel_rfl) (by kernel_rfl) (fun _ _ _ h => h) (Or.inl ⟨by rfl, (by intro w; go_simp; try with_reducible rfl)⟩) ?_
        refine wpAny_take (i := 2) (v := ?_) rfl (by kernel_rfl) (by kernel_rfl) (by kernel_rfl) (fun _ _ _ h => h) (Or.inl ⟨by rfl, (by intro w; go_simp; try with_reducible rfl)⟩) ?_
        refine wpAny_take (i := 4) (v := ?_) rfl (by kernel_rfl) (by kernel_rfl) (by kernel_rfl) (fun _ _ _ h => h) (Or.inl ⟨by rfl, (by intro w; go_simp; try with_reducible rfl)⟩) ?_
        refine wpAny_take (i := 5) (v := ?_) rfl (by kernel_rfl) (by kernel_rfl) (by kernel_rfl) (fun _ _ _ h => h) (Or.inl ⟨by rfl, (by intro w; go_simp; try with_reducible rfl)⟩) ?_
        refine wpAny_take (i := 6) (v := ?_) rfl (by kernel_rfl) (by kernel_rfl) (by kernel_rfl) (fun _ _ _ h => h) (Or.inl ⟨by rfl, (by intro w; go_simp; try with_reducible rfl)⟩) ?_
        refine wpAny_ready (rs := [3, 7]) (by kernel_rfl) (by simp) ?_
        refine AllReady.cons rfl (fun K hK => ?_) (AllReady.cons rfl (fun K hK => ?_) AllReady.nil)
        · go_simp
          refine hK _ _ ?_
          clear hK K
          refine wpAny_ready (rs := [7]) (by kernel_rfl) (by simp) ?_
          refine AllReady.cons rfl (fun K hK => ?_) AllReady.nil
          go_simp
          go_wp2_with fail
          (with_reducible refine (NO.out _ (Kept.refl wr).drew).mono ?_)
          rintro e w5 ⟨rfl, hg5⟩
          have G5 := Lib.hid (gbT BI.out.2 (gbT (gbK (Kept.refl wr).drew (some b)) hg5))
          clear hg5
          go_wp2_with fail
          exact ⟨rfl, ownA_no HV.out G5.out⟩
        · go_simp
          go_wp2_with fail
          (with_reducible refine (NO.out _ (Kept.refl wr).drew).mono ?_)
          rintro e w5 ⟨rfl, hg5⟩
          have G5 := Lib.hid (gbT BI.out.2 (gbT (gbK (Kept.refl wr).drew (some b)) hg5))
          clear hg5
          go_wp2_with fail
          exact ⟨rfl, ownA_no HV.out G5.out⟩
    · obtain rfl : i = kk := by omega
      have HOV3 := Lib.hid (HOV2.out.trans (if_pos hti))
      obtain ⟨S, hS⟩ : ∃ S, S = shortL B i (t + 14) := ⟨_, rfl⟩
      rw [← hS] at HOV3
      have HS19 := Lib.hid (show S.length = 19 by rw [hS]; exact shortL_len _ _ _)
      have HS15 := Lib.hid (show ∀ x ∈ S, x ≤ 15 by rw [hS]; exact shortL_le _ _ _)
      have IS := Lib.hid (show IntsR wr (some ⟨q, 0, none⟩) (S.map Int.ofNat) from (HG.out.fn _ (fun s hs => by rw [hS, getD_at _ _ (by rw [shortL_len]; exact hs), shortL_get B i (t + 14) s hs])).ints HS19.out.symm)
      have TR := Lib.hid (treeOf_small S (by rw [HS19.out]; decide) HS15.out 19 HS19.out.symm (some ⟨q, 0, none⟩) 19 wr IS.out)
      clear hS HOV2 hlt
      go_wp2_with fail
      (with_reducible refine TR.out.mono ?_)
      intro e w5 hs5
      rcases hs5.cases with ⟨hnt, rfl, hk5⟩ | ⟨tb, hyt, rfl, ht5, hk5⟩
      · have HV := Lib.hid (show ownV B t = .error 3 by rw [HOV3.out, if_pos hnt])
        have G5 := Lib.hid (gbT BI.out.2 (gbK hk5 _))
        clear hs5 hk5 hnt
        go_wp2_with fail
        exact ⟨rfl, ownA_no HV.out G5.out⟩
      · have HOV4 := Lib.hid (HOV3.out.trans (if_neg (by rw [hyt]; simp)))
        have BI5 := Lib.hid (biR_kept BI.out hk5)
        have RB5 := Lib.hid (RB.out.kept hk5)
        obtain ⟨all, hall⟩ : ∃ all, all = n5 + 257 + (m5 + 1) := ⟨_, rfl⟩
        rw [← hall] at HOV4
        have hallI : (n5 : Int) + 257 + ((m5 : Int) + 1) = (all : Int) := by omega
        have HALL := Lib.hid hall
        have hal : all ≤ 316 := by omega
        have hal2 : 258 ≤ all := by omega
        have LE := Lib.hid (lengths_any S _ tb all BI5.out.1 hti hB ht5 (fun e => by have := e.1; have := BI.out.2.size; have := HR.out; omega) HS19.out (by omega) (by omega))
        clear hs5 hk5 ht5 hyt TR HOV3 hall
        go_wp2_with fail
        (with_reducible refine LE.out.mono ?_)
        intro e w6 hs6
        rcases hs6.cases with ⟨k', hr, rfl, hg6⟩ | ⟨l, t', g, cap, hr, rfl, hn6, hb6, ht'⟩
        · have HV := Lib.hid (show ownV B t = .error k' by rw [HOV4.out, hr]; rfl)
          have G6 := Lib.hid (gbT BI5.out.2 hg6)
          clear hs6 hr hg6
          go_wp2_with fail
          exact ⟨rfl, ownA_no HV.out G6.out⟩
        · obtain ⟨hla, hl15, -, -⟩ := lensGo_ok S B all HS19.out _ _ _ _ _ hr (Nat.zero_le _) (by intro x hx; cases hx) hti
          have HOV5 := Lib.hid (show ownV B t = ownEnd (n5 + 257) (.ok (l, t')) by rw [HOV4.out, hr])
          have HL15 := Lib.hid hl15
          have HLA := Lib.hid hla
          have NU := Lib.hid hn6
          have BI6 := Lib.hid (show BiR w B0 b p c B t' v gv w6 from ⟨hb6.1, gbT BI5.out.2 hb6.2⟩)
          have RB6 := Lib.hid (show Blk w6 r #[.pointer none, .pointer none] 114 from (hb6.2.block r RB5.out.lt (by intro e; injection e with e; omega)).trans RB5.out)
          have c256 := hn6.cell rfl 256 (by omega)
          have hcap : l.length ≤ cap := by
            rcases hn6.2 with ⟨h1, -⟩ | ⟨g', cap', cur, h1, -, -, h2, -⟩
            · cases h1
            · injection h1 with e1 e2 e3
              omega
          obtain ⟨x, hx⟩ : ∃ x, x = l[256]'(by omega) := ⟨_, rfl⟩
          rw [← hx] at c256
          have HX := Lib.hid (show l.getD 256 0 = x by rw [hx]; exact getD_at l 256 (by omega))
          simp only [hla] at hcap ⊢
          have h256 : (256 : Int) < (all : Int) := by omega
          have h256n : 256 < all := by omega
          clear hs6 hr hn6 hb6 HOV4 hx hl15 hla
          by_cases hx0 : x = 0
          · have f0 : ((x : Int) == 0) = true := by rw [beq_iff_eq]; omega
            have HV := Lib.hid (show ownV B t = .error 3 by rw [HOV5.out, ownEnd, if_pos (by rw [HX.out, hx0])])
            clear hx0
            go_wp2_with fail
            exact ⟨rfl, ownA_no HV.out BI6.out.2⟩
          · have f0 : ((x : Int) == 0) = false := by rw [beq_eq_false_iff_ne]; omega
            have HOV6 := Lib.hid (show ownV B t = if isTree (l.take (n5 + 257)) = false then .error 3 else if isTree (l.drop (n5 + 257)) = false then .error 3 else .ok (l.take (n5 + 257), l.drop (n5 + 257), t') by rw [HOV5.out, ownEnd, if_neg (by rw [HX.out]; exact hx0)])
            clear hx0 HOV5
            go_wp2_with fail
            obtain ⟨N, hN⟩ : ∃ N, N = n5 + 257 := ⟨_, rfl⟩
            have hNI : (n5 : Int) + 257 = (N : Int) := by omega
            have hM : m5 + 1 = all - N := by have := HALL.out; omega
            have hMI : (all : Int) - (N : Int) = ((all - N : Nat) : Int) := by omega
            rw [← hN] at HOV6
            have hNa : N < all := by have := HALL.out; omega
            simp only [hNI]
            have n1 : (0 : Int) ≤ (N : Int) := by omega
            have n2 : (N : Int) ≤ (all : Int) := by omega
            have n3 : (all : Int) ≤ (cap : Int) := by omega
            have n4 : (N : Int) ≤ (cap : Int) := by omega
            have n5' : N ≤ cap := by omega
            have n6 : N ≤ all := by omega
            have n7 : N < cap := by omega
            have n8 : (cap : Int) - (N : Int) ≠ 0 := by omega
            have n9 : cap - N ≠ 0 := by omega
            have n10 : ¬ cap = N := by omega
            clear hN hNI hM hMI
            refine wp_region_any (by kernel_rfl) ?_
            change wpAny _ _ _ _ _ _ _ (World.drew _)
            refine wpAny_take (i := 0) (v := ?_) rfl (by kernel_rfl) (by kernel_rfl) (by kernel_rfl) (fun _ _ _ h => h) (Or.inl ⟨by rfl, (by intro w; go_simp; try with_reducible rfl)⟩) ?_
            refine wpAny_take (i := 1) (v := ?_) rfl (by kernel_rfl) (by kernel_rfl) (by kernel_rfl) (fun _ _ _ h => h) (Or.inl ⟨by rfl, (by intro w; go_simp; try with_reducible rfl)⟩) ?_
            refine wpAny_take (i := 2) (v := ?_) rfl (by kernel_rfl) (by kernel_rfl) (by kernel_rfl) (fun _ _ _ h => h) (Or.inl ⟨by rfl, (by intro w; go_simp; try with_reducible rfl)⟩) ?_
            refine wpAny_take (i := 4) (v := ?_) rfl (by kernel_rfl) (by kernel_rfl) (by kernel_rfl) (fun _ _ _ h => h) (Or.inl ⟨by rfl, (by intro w; go_simp; try with_reducible rfl)⟩) ?_
            refine wpAny_take (i := 5) (v := ?_) rfl (by kernel_rfl) (by kernel_rfl) (by kernel_rfl) (fun _ _ _ h => h) (Or.inl ⟨by rfl, (by intro w; go_simp; try with_reducible rfl)⟩) ?_
            refine wpAny_take (i := 6) (v := ?_) rfl (by kernel_rfl) (by kernel_rfl) (by kernel_rfl) (fun _ _ _ h => h) (Or.inl ⟨by rfl, (by intro w; go_simp; try with_reducible rfl)⟩) ?_
            refine wpAny_ready (rs := [3]) (by kernel_rfl) (by simp) ?_
            refine AllReady.cons rfl (fun K hK => ?_) AllReady.nil
            go_simp
            have KD := Lib.hid ((Kept.refl w6).drew)
            have I6 := Lib.hid (NU.out.ints rfl)
            have T1 := Lib.hid (treeOf_small (l.take N) (by rw [List.length_take]; omega) (fun x hx => HL15.out x (List.mem_of_mem_take hx)) N (by rw [List.length_take, HLA.out]; omega) (some ⟨g, 0, none⟩) cap w6.drew ((I6.out.kept KD.out).take N))
            (with_reducible refine T1.out.mono ?_)
            intro e w7 hs7
            rcases hs7.cases with ⟨hnt, rfl, hk7⟩ | ⟨ts, hyt, rfl, ht7, hk7⟩
            · have HV := Lib.hid (show ownV B t = .error 3 by rw [HOV6.out, if_pos hnt])
              have G7 := Lib.hid (gbT BI6.out.2 (gbK (KD.out.trans hk7) _))
              clear hs7 hk7 hnt
              go_wp2_with fail
              exact ⟨rfl, ownA_no HV.out G7.out⟩
            · have HOV7 := Lib.hid (HOV6.out.trans (if_neg (by rw [hyt]; simp)))
              have K7 := Lib.hid (KD.out.trans hk7)
              have HT7 := Lib.hid ht7
              have D7 := Lib.hid ((NU.out.intsDrop rfl N).kept K7.out)
              have T2 := Lib.hid (treeOf_small (l.drop N) (by rw [List.length_drop, HLA.out]; omega) (fun x hx => HL15.out x (List.mem_of_mem_drop hx)) (all - N) (by rw [List.length_drop, HLA.out]) (some ⟨g, N, none⟩) (cap - N) w7 D7.out)
              clear hs7 hk7 hyt ht7 HOV6
              go_wp2_with fail
              refine wpAny_ready (rs := [7]) (by kernel_rfl) (by simp) ?_
              refine AllReady.cons rfl (fun K hK => ?_) AllReady.nil
              go_simp
              (with_reducible refine T2.out.mono ?_)
              intro e w8 hs8
              rcases hs8.cases with ⟨hnt, rfl, hk8⟩ | ⟨td, hyt, rfl, ht8, hk8⟩
              · have HV := Lib.hid (show ownV B t = .error 3 by rw [HOV7.out, if_pos hnt])
                have G8 := Lib.hid (gbT BI6.out.2 (gbK (K7.out.trans hk8) _))
                clear hs8 hk8 hnt
                go_wp2_with fail
                exact ⟨rfl, ownA_no HV.out G8.out⟩
              · have HV := Lib.hid (HOV7.out.trans (if_neg (by rw [hyt]; simp)))
                have K8 := Lib.hid (K7.out.trans hk8)
                have HT78 := Lib.hid (HT7.out.kept hk8)
                have HT8 := Lib.hid ht8
                have BI8 := Lib.hid (biR_kept BI6.out K8.out)
                have RB8 := Lib.hid (RB6.out.kept K8.out)
                obtain ⟨e0, e1⟩ := RB8.out.cells2
                have rl8 := RB8.out.lt
                have rf8 := RB8.out.free
                have s6 := BI6.out.2.size
                have s7 := Below.size K7.out
                have s8 := Below.size hk8
                have hts := HT78.out.here
                have htd := HT8.out.here
                clear hs8 hk8 hyt ht8 HOV7
                go_wp2_with fail
                refine wpAny_take (i := 8) (v := ?_) rfl (by kernel_rfl) (by kernel_rfl) (by kernel_rfl) (fun _ _ _ h => h) (Or.inl ⟨by rfl, (by intro w; go_simp; try with_reducible rfl)⟩) ?_
                refine wpAny_ready (rs := [9]) (by kernel_rfl) (by simp) ?_
                refine AllReady.cons rfl (fun K hK => ?_) AllReady.nil
                go_simp
                refine hK _ _ ?_
                clear hK K
                refine wpAny_done (by kernel_rfl) ?_ _
                go_wp2_with fail
                have RBF := Lib.hid (show Blk ((w8.setCell ⟨r, 0, none⟩ (.pointer (some ⟨ts, 0, none⟩))).setCell ⟨r, 1, none⟩ (.pointer (some ⟨td, 0, none⟩))) r #[.pointer (some ⟨ts, 0, none⟩), .pointer (some ⟨td, 0, none⟩)] 114 from by
                  simpa using (RB8.out.set 0 (.pointer (some ⟨ts, 0, none⟩))).set 1 (.pointer (some ⟨td, 0, none⟩)))
                have BIF := Lib.hid (biR_set (biR_set BI8.out (by rw [← HR.out]; exact hbl) (g := r) (by rw [← HR.out]; exact Nat.le_refl _) 0 (.pointer (some ⟨ts, 0, none⟩))) (by rw [← HR.out]; exact hbl) (g := r) (by rw [← HR.out]; exact Nat.le_refl _) 1 (.pointer (some ⟨td, 0, none⟩)))
                have key : ∀ j, j ≠ r → ((w8.setCell ⟨r, 0, none⟩ (.pointer (some ⟨ts, 0, none⟩))).setCell ⟨r, 1, none⟩ (.pointer (some ⟨td, 0, none⟩))).heap[j]? = w8.heap[j]? := fun j hj => (Below.heap_setCell _ ⟨r, 1, none⟩ _ j hj).trans (Below.heap_setCell _ ⟨r, 0, none⟩ _ j hj)
                have hsz : ((w8.setCell ⟨r, 0, none⟩ (.pointer (some ⟨ts, 0, none⟩))).setCell ⟨r, 1, none⟩ (.pointer (some ⟨td, 0, none⟩))).heap.size = w8.heap.size := by simp
                obtain ⟨WF, hWF⟩ : ∃ WF, WF = (w8.setCell ⟨r, 0, none⟩ (.pointer (some ⟨ts, 0, none⟩))).setCell ⟨r, 1, none⟩ (.pointer (some ⟨td, 0, none⟩)) := ⟨_, rfl⟩
                rw [← hWF] at RBF BIF key hsz ⊢
                obtain ⟨f0, f1⟩ := RBF.out.cells2
                have rlF := RBF.out.lt
                refine bodyPost_ret (v := .agg #[.pointer (some ⟨ts, 0, none⟩), .pointer (some ⟨td, 0, none⟩)]) (by simp [results, Tryd.results81, go_sem, f0, f1, rlF]) rfl ?_
                unfold OwnA
                rw [HV.out]
                have s6d : w6.drew.heap.size = w6.heap.size := rfl
                have hr6 := RB6.out.lt
                have hvl := HO.out.own.lt
                refine ⟨ts, td, fun j => r < j ∧ j < w8.heap.size, rfl, HO.out.bits BIF.out, fun j hj => ⟨by have := hj.1; omega, fun e => ?_⟩, ?_, ?_, BIF.out.2, ht'⟩
                · have h1 := (hvl j e).2
                  rw [← HR.out] at h1
                  have := hj.1
                  omega
                · exact ((HT78.out.sub (f := fun j => r < j ∧ j < w8.heap.size) (fun j (hj : w6.drew.heap.size ≤ j ∧ j < w7.heap.size) => (show r < j ∧ j < w8.heap.size by omega)) (fun j hj => hj.2)).move (by omega) fun j (hj : r < j ∧ j < w8.heap.size) => key j (by omega))
                · exact ((HT8.out.sub (f := fun j => r < j ∧ j < w8.heap.size) (fun j (hj : w7.heap.size ≤ j ∧ j < w8.heap.size) => (show r < j ∧ j < w8.heap.size by omega)) (fun j hj => hj.2)).move (by omega) fun j (hj : r < j ∧ j < w8.heap.size) => key j (by omega))

end Go.Proofs.YtpplboihlndfpaaDoor
