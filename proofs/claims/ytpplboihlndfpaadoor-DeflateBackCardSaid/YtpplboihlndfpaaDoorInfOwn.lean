/-
  A block's own trees: run, lengths.
-/
import Derived.Test.YtpplboihlndfpaaDoorInfNums
import Derived.Test.YtpplboihlndfpaaDoorInfSpan
import Derived.Test.YtpplboihlndfpaaDoorInfTree
import Derived.Test.YtpplboihlndfpaaDoorDefMaths
import Derived.Deep.RegionHeld3
namespace Go.Proofs.YtpplboihlndfpaaDoor
open Go.RowKit Ix
set_option linter.unusedSimpArgs false
set_option linter.unusedVariables false

/-- What run leaves. -/
def RunA (w : World) (B0 b : Nat) (p : Option Addr) (c : Nat) (B : List UInt8) (ov gv : Value) (r : Except Int (Nat × Nat × Nat)) (e : Ending) (w' : World) : Prop := match r with
  | .error k => e = .panicked (thrown k) ∧ w.grownBy w' (some b)
  | .ok (n, times, t') => e = .returned (.tuple #[.int .i64 n, .int .i64 times]) ∧ BiR w B0 b p c B t' ov gv w' ∧ t' ≤ 8 * B.length
theorem RunA.cases {w : World} {B0 b : Nat} {p : Option Addr} {c : Nat} {B : List UInt8} {ov gv : Value} {r : Except Int (Nat × Nat × Nat)} {e : Ending} {w' : World} (h : RunA w B0 b p c B ov gv r e w') :
    (∃ k, r = .error k ∧ e = .panicked (thrown k) ∧ w.grownBy w' (some b)) ∨ ∃ n times t', r = .ok (n, times, t') ∧ e = .returned (.tuple #[.int .i64 n, .int .i64 times]) ∧ BiR w B0 b p c B t' ov gv w' ∧ t' ≤ 8 * B.length := by
  unfold RunA at h
  rcases r with k | ⟨n, times, t'⟩
  · exact .inl ⟨k, rfl, h⟩
  · exact .inr ⟨n, times, t', rfl, h⟩

theorem numV_cases (B : List UInt8) (n t : Nat) : (t + n ≤ 8 * B.length ∧ numV B n t = .ok (numAt B n t, t + n)) ∨ (¬ t + n ≤ 8 * B.length ∧ numV B n t = .error 4) := by
  unfold numV
  by_cases h : t + n ≤ 8 * B.length
  · exact .inl ⟨h, if_pos h⟩
  · exact .inr ⟨h, if_neg h⟩

theorem number_okL (n : Nat) (z : Int) (hz : z = (n : Int)) {B0 b : Nat} {p : Option Addr} {c : Nat} {B : List UInt8} {t : Nat} {ov gv : Value} {w : World} (hn : n ≤ 16) (h : Bi w B0 b p c B t ov gv) (ht : t + n ≤ 8 * B.length) (hB : B.length ≤ 1099511627776) :
    Calls Tryd.prog 77 #[.pointer (some ⟨b, 0, none⟩), .int .i64 z] w fun e w' => e = .returned (.int .i64 (numAt B n t)) ∧ BiR w B0 b p c B (t + n) ov gv w' := by
  subst hz
  exact number_ok n hn h ht hB
theorem number_noL (n : Nat) (z : Int) (hz : z = (n : Int)) {B0 b : Nat} {p : Option Addr} {c : Nat} {B : List UInt8} {t : Nat} {ov gv : Value} {w : World} (hn : n ≤ 16) (h : Bi w B0 b p c B t ov gv) (h8 : t ≤ 8 * B.length) (ht : 8 * B.length < t + n) (hB : B.length ≤ 1099511627776) :
    Calls Tryd.prog 77 #[.pointer (some ⟨b, 0, none⟩), .int .i64 z] w fun e w' => e = .panicked (thrown 4) ∧ w.grownBy w' (some b) := by
  subst hz
  exact number_no n hn h h8 ht hB

set_option maxRecDepth 100000 in
set_option maxHeartbeats 2000000 in
theorem run_any (s : Nat) {B0 b : Nat} {p : Option Addr} {c : Nat} {B : List UInt8} {t : Nat} {ov gv : Value} {w : World} (h : Bi w B0 b p c B t ov gv) (h8 : t ≤ 8 * B.length) (hB : B.length ≤ 1099511627776)
    (acc : List Nat) {B1 g cap : Nat} (ha : Nums w B1 (.slice (some ⟨g, 0, none⟩) acc.length cap) acc) (hgb : g ≠ b) (hal : acc.length ≤ 1000) (hs : s < 19) :
    Calls Tryd.prog 130 #[.pointer (some ⟨b, 0, none⟩), .int .i64 s, .slice (some ⟨g, 0, none⟩) acc.length cap] w (RunA w B0 b p c B ov gv (runV B s t acc)) := by
  have hp := run_thrown
  have HB := Lib.hid h
  by_cases e16 : s = 16
  · have f16 : ((s : Int) == 16) = true := by rw [beq_iff_eq]; omega
    by_cases h0 : acc.length = 0
    · have f0 : ((acc.length : Int) == 0) = true := by rw [beq_iff_eq]; omega
      have HV := Lib.hid (show runV B s t acc = .error 3 by unfold runV; rw [if_pos e16, if_pos h0])
      clear h h0 e16
      go_enter Tryd.func130, Tryd.ntmps130
      go_wp2_with fail
      refine ⟨rfl, ?_⟩
      unfold RunA
      rw [HV.out]
      exact ⟨rfl, gbR _ _⟩
    · have f0 : ((acc.length : Int) == 0) = false := by rw [beq_eq_false_iff_ne]; omega
      obtain ⟨d, hd⟩ : ∃ d, acc.length = d + 1 := ⟨acc.length - 1, by omega⟩
      have hcd := ha.cell rfl d (by omega)
      have hgl := (World.ownsRow.lt ha g rfl).2
      have HX := Lib.hid (show acc.getD (acc.length - 1) 0 = acc[d]'(by omega) by rw [show acc.length - 1 = d by omega]; simp [List.getD, show d < acc.length by omega])
      obtain ⟨x, hx⟩ : ∃ x, x = acc[d]'(by omega) := ⟨_, rfl⟩
      rw [← hx] at hcd HX
      have s0 : (acc.length : Int) - 1 = (d : Int) := by omega
      have s1 : (d : Int) < (acc.length : Int) := by omega
      have s2 : IntKind.i64.wrap (d : Int) = (d : Int) := IntWalk.i64_in _ (by omega)
      have s3 : (0 : Int) ≤ (d : Int) := by omega
      have HD := Lib.hid hd
      by_cases ht : t + 2 ≤ 8 * B.length
      · have HV := Lib.hid (show runV B s t acc = .ok (x, 3 + numAt B 2 t, t + 2) by unfold runV; rw [if_pos e16, if_neg h0, if_pos ht, HX.out])
        have NO := Lib.hid (fun w' (k : Kept w w') => number_okL 2 2 rfl (by decide) (HB.out.kept k) ht hB)
        have hx4 := numAt_lt B t 2
        obtain ⟨y, hy⟩ : ∃ y, y = numAt B 2 t := ⟨_, rfl⟩
        rw [← hy] at NO HV hx4
        have HGB := Lib.hid hgb
        clear h h0 e16 hx hy hd
        go_enter Tryd.func130, Tryd.ntmps130
        go_wp2_with fail
        go_region_held3 (fun w' => w'.cell? ⟨g, d, none⟩ = some (.int .i64 (x : Int))) (go_keep) ((go_at_call 77; (with_reducible refine (NO.out _ (Kept.refl w).drew).mono ?_); rintro e w2 ⟨rfl, hb2, hg2⟩; have m0 : w2.cell? ⟨g, d, none⟩ = some (.int .i64 (x : Int)) := (by (with_reducible rw [← hcd]); exact World.cell?_of_block (hg2.block g hgl (by intro e; injection e with e; exact HGB.out e)))))
        have HB2 := Lib.hid hb2
        have HG2 := Lib.hid (gbT (gbK (Kept.refl w).drew (some b)) hg2)
        clear hb2 hg2
        go_wp2_with fail
        go_ret2
        unfold RunA
        rw [HV.out]
        exact ⟨by rw [IntWalk.i64_in (3 + (y : Int)) (by omega), Int.natCast_add]; rfl, ⟨HB2.out, HG2.out⟩, ht⟩
      · have HV := Lib.hid (show runV B s t acc = .error 4 by unfold runV; rw [if_pos e16, if_neg h0, if_neg ht])
        have NO := Lib.hid (fun w' (k : Kept w w') => number_noL 2 2 rfl (by decide) (HB.out.kept k) h8 (by omega) hB)
        clear h h0 e16 hx hd
        go_enter Tryd.func130, Tryd.ntmps130
        go_wp2_with fail
        refine wp_region_any (by kernel_rfl) ?_
        change wpAny _ _ _ _ _ _ _ (World.drew _)
        refine wpAny_take (i := 0) (v := ?_) rfl (by kernel_rfl) (by kernel_rfl) (by kernel_rfl) (fun _ _ _ h => h) (Or.inl ⟨by rfl, (by intro w; go_simp; try with_reducible rfl)⟩) ?_
        refine wpAny_take (i := 1) (v := ?_) rfl (by kernel_rfl) (by kernel_rfl) (by kernel_rfl) (fun _ _ _ h => h) (Or.inl ⟨by rfl, (by intro w; go_simp; try with_reducible rfl)⟩) ?_
        refine wpAny_take (i := 2) (v := ?_) rfl (by kernel_rfl) (by kernel_rfl) (by kernel_rfl) (fun _ _ _ h => h) (Or.inl ⟨by rfl, (by intro w; go_simp; try with_reducible rfl)⟩) ?_
        refine wpAny_take (i := 3) (v := ?_) rfl (by kernel_rfl) (by kernel_rfl) (by kernel_rfl) (fun _ _ _ h => h) (Or.inl ⟨by rfl, (by intro w; go_simp; try with_reducible rfl)⟩) ?_
        refine wpAny_take (i := 4) (v := ?_) rfl (by kernel_rfl) (by kernel_rfl) (by kernel_rfl) (fun _ _ _ h => h) (Or.inl ⟨by rfl, (by intro w; go_simp; try with_reducible rfl)⟩) ?_
        refine wpAny_take (i := 6) (v := ?_) rfl (by kernel_rfl) (by kernel_rfl) (by kernel_rfl) (fun _ _ _ h => h) (Or.inl ⟨by rfl, (by intro w; go_simp; try with_reducible rfl)⟩) ?_
        refine wpAny_take (i := 7) (v := ?_) rfl (by kernel_rfl) (by kernel_rfl) (by kernel_rfl) (fun _ _ _ h => h) (Or.inl ⟨by rfl, (by intro w; go_simp; try with_reducible rfl)⟩) ?_
        refine wpAny_take (i := 8) (v := ?_) rfl (by kernel_rfl) (by kernel_rfl) (by kernel_rfl) (fun _ _ _ h => h) (Or.inl ⟨by rfl, (by intro w; go_simp; try with_reducible rfl)⟩) ?_
        refine wpAny_ready (rs := [5, 9]) (by kernel_rfl) (by simp) ?_
        refine AllReady.cons rfl (fun K hK => ?_) (AllReady.cons rfl (fun K hK => ?_) AllReady.nil)
        · go_simp
          refine hK _ _ ?_
          clear hK K
          refine wpAny_ready (rs := [9]) (by kernel_rfl) (by simp) ?_
          refine AllReady.cons rfl (fun K hK => ?_) AllReady.nil
          go_simp
          go_wp2_with fail
          (with_reducible refine (NO.out _ (Kept.refl w).drew).mono ?_)
          rintro e w2 ⟨rfl, hg2⟩
          refine ⟨rfl, ?_⟩
          unfold RunA
          rw [HV.out]
          exact ⟨rfl, gbT (gbK (Kept.refl w).drew (some b)) hg2⟩
        · go_simp
          go_wp2_with fail
          (with_reducible refine (NO.out _ (Kept.refl w).drew).mono ?_)
          rintro e w2 ⟨rfl, hg2⟩
          refine ⟨rfl, ?_⟩
          unfold RunA
          rw [HV.out]
          exact ⟨rfl, gbT (gbK (Kept.refl w).drew (some b)) hg2⟩
  · have f16 : ((s : Int) == 16) = false := by rw [beq_eq_false_iff_ne]; omega
    by_cases e17 : s = 17
    · have f17 : ((s : Int) == 17) = true := by rw [beq_iff_eq]; omega
      have NA := Lib.hid (number_lit 3 3 rfl (by decide) HB.out h8 hB)
      have b3 := numAt_lt B t 3
      have HR0 := Lib.hid (show runV B s t acc = if t + 3 ≤ 8 * B.length then .ok (0, 3 + numAt B 3 t, t + 3) else .error 4 by unfold runV; rw [if_neg e16, if_pos e17])
      clear h e16 e17
      go_enter Tryd.func130, Tryd.ntmps130
      go_wp2_with fail
      (with_reducible refine NA.out.mono ?_)
      intro e w2 hs2
      rcases numV_cases B 3 t with ⟨hle, hn⟩ | ⟨hle, hn⟩
      · rw [hn] at hs2
        have HV := Lib.hid (show runV B s t acc = _ from (HR0.out.trans (if_pos hle)))
        obtain ⟨y, hy⟩ : ∃ y, y = numAt B 3 t := ⟨_, rfl⟩
        rw [← hy] at hs2 HV b3
        obtain ⟨rfl, hb2, -⟩ := hs2
        have HB2 := Lib.hid hb2
        clear hb2 hn hy
        go_wp2_with fail
        go_ret2
        unfold RunA
        rw [HV.out]
        exact ⟨by go_num, HB2.out, hle⟩
      · rw [hn] at hs2
        have HV := Lib.hid (show runV B s t acc = _ from (HR0.out.trans (if_neg hle)))
        obtain ⟨rfl, hg2⟩ := hs2
        have HG2 := Lib.hid hg2
        clear hg2 hn
        go_wp2_with fail
        refine ⟨rfl, ?_⟩
        unfold RunA
        rw [HV.out]
        exact ⟨rfl, HG2.out⟩
    · have f17 : ((s : Int) == 17) = false := by rw [beq_eq_false_iff_ne]; omega
      by_cases e18 : s = 18
      · have f18 : ((s : Int) == 18) = true := by rw [beq_iff_eq]; omega
        have NA := Lib.hid (number_lit 7 7 rfl (by decide) HB.out h8 hB)
        have b7 := numAt_lt B t 7
        have HR0 := Lib.hid (show runV B s t acc = if t + 7 ≤ 8 * B.length then .ok (0, 11 + numAt B 7 t, t + 7) else .error 4 by unfold runV; rw [if_neg e16, if_neg e17, if_pos e18])
        clear h e16 e17 e18
        go_enter Tryd.func130, Tryd.ntmps130
        go_wp2_with fail
        (with_reducible refine NA.out.mono ?_)
        intro e w2 hs2
        rcases numV_cases B 7 t with ⟨hle, hn⟩ | ⟨hle, hn⟩
        · rw [hn] at hs2
          have HV := Lib.hid (show runV B s t acc = _ from (HR0.out.trans (if_pos hle)))
          obtain ⟨y, hy⟩ : ∃ y, y = numAt B 7 t := ⟨_, rfl⟩
          rw [← hy] at hs2 HV b7
          obtain ⟨rfl, hb2, -⟩ := hs2
          have HB2 := Lib.hid hb2
          clear hb2 hn hy
          go_wp2_with fail
          go_ret2
          unfold RunA
          rw [HV.out]
          exact ⟨by go_num, HB2.out, hle⟩
        · rw [hn] at hs2
          have HV := Lib.hid (show runV B s t acc = _ from (HR0.out.trans (if_neg hle)))
          obtain ⟨rfl, hg2⟩ := hs2
          have HG2 := Lib.hid hg2
          clear hg2 hn
          go_wp2_with fail
          refine ⟨rfl, ?_⟩
          unfold RunA
          rw [HV.out]
          exact ⟨rfl, HG2.out⟩
      · have f18 : ((s : Int) == 18) = false := by rw [beq_eq_false_iff_ne]; omega
        have HV := Lib.hid (show runV B s t acc = .ok (s, 1, t) by unfold runV; rw [if_neg e16, if_neg e17, if_neg e18])
        clear h e16 e17 e18
        go_enter Tryd.func130, Tryd.ntmps130
        go_wp2_with fail
        go_ret2
        unfold RunA
        rw [HV.out]
        exact ⟨rfl, ⟨HB.out, gbR _ _⟩, h8⟩

/-- Behind an append to numbers of the call's own. -/
theorem biR_app {w wr w' : World} {B0 b : Nat} {p : Option Addr} {c : Nat} {B : List UInt8} {t : Nat} {ov gv : Value} {o : Obj} {g : Nat} (h : BiR w B0 b p c B t ov gv wr) (hb : b < w.heap.size) (hg : w.heap.size ≤ g) (k : (wr.alloc o).grownBy w' (some g)) : BiR w B0 b p c B t ov gv w' := by
  have hs := h.2.size
  have hl := h.1.low
  have key : ∀ j, j < wr.heap.size → j ≠ g → w'.heap[j]? = wr.heap[j]? := fun j hj hne => (k.block j (by simp; omega) (by simpa using hne)).trans (Below.heap_alloc wr o j hj)
  refine ⟨⟨(key b (by omega) (by omega)).trans h.1.blk, fun i hi => ?_, hl⟩, ?_⟩
  · obtain ⟨kb, o', hp, hk, hc⟩ := h.1.byt i hi
    exact ⟨kb, o', hp, hk, by rw [← hc]; exact World.cell?_of_block (key kb (by omega) (by omega))⟩
  · refine ⟨k.os.trans h.2.os, k.tape.trans h.2.tape, k.output.trans h.2.output, ?_, fun j hj hn => (key j (by omega) (by omega)).trans (h.2.block j hj hn)⟩
    have := k.size
    simp at this
    omega
/-- Where bits are taken numbers of the call's own are let be. -/
theorem Nums.bi {w w' : World} {B1 : Nat} {v : Value} {l : List Nat} {b : Nat} (h : Nums w B1 v l) (hb : b < B1) (g : w.grownBy w' (some b)) : Nums w' B1 v l := by
  refine h.gb g ?_
  cases hv : v.ownBlock with
  | none => exact .inl rfl
  | some x =>
    refine .inr ?_
    intro e
    injection e with e
    have := (World.ownsRow.lt h x hv).1
    omega
/-- What lengths leaves. -/
def LensA (w : World) (B0 b : Nat) (p : Option Addr) (c : Nat) (B : List UInt8) (ov gv : Value) (r : Except Int (List Nat × Nat)) (e : Ending) (w' : World) : Prop := match r with
  | .error k => e = .panicked (thrown k) ∧ w.grownBy w' (some b)
  | .ok (l, t') => (∃ g cap, e = .returned (.slice (some ⟨g, 0, none⟩) l.length cap) ∧ Nums w' w.heap.size (.slice (some ⟨g, 0, none⟩) l.length cap) l) ∧ BiR w B0 b p c B t' ov gv w' ∧ t' ≤ 8 * B.length
theorem LensA.cases {w : World} {B0 b : Nat} {p : Option Addr} {c : Nat} {B : List UInt8} {ov gv : Value} {r : Except Int (List Nat × Nat)} {e : Ending} {w' : World} (h : LensA w B0 b p c B ov gv r e w') :
    (∃ k, r = .error k ∧ e = .panicked (thrown k) ∧ w.grownBy w' (some b)) ∨ ∃ l t' g cap, r = .ok (l, t') ∧ e = .returned (.slice (some ⟨g, 0, none⟩) l.length cap) ∧ Nums w' w.heap.size (.slice (some ⟨g, 0, none⟩) l.length cap) l ∧ BiR w B0 b p c B t' ov gv w' ∧ t' ≤ 8 * B.length := by
  unfold LensA at h
  rcases r with k | ⟨l, t'⟩
  · exact .inl ⟨k, rfl, h⟩
  · obtain ⟨⟨g, cap, h1, h2⟩, h3, h4⟩ := h
    exact .inr ⟨l, t', g, cap, rfl, h1, h2, h3, h4⟩

set_option maxRecDepth 100000 in
set_option maxHeartbeats 4000000 in
theorem lengths_any (S : List Nat) (fp : Nat → Prop) (tb all : Nat) {B0 b : Nat} {p : Option Addr} {c : Nat} {B : List UInt8} {t : Nat} {ov gv : Value} {w : World} (h : Bi w B0 b p c B t ov gv) (h8 : t ≤ 8 * B.length) (hB : B.length ≤ 1099511627776)
    (hT : Tree w fp tb S) (hne : ¬ fp b) (hS : S.length = 19) (hal : all ≤ 1000) (h1 : 1 ≤ all) :
    Calls Tryd.prog 114 #[.pointer (some ⟨b, 0, none⟩), .pointer (some ⟨tb, 0, none⟩), .int .i64 all] w (LensA w B0 b p c B ov gv (lensGo S B all (all + 1) t [])) := by
  have HB := Lib.hid h
  have HT := Lib.hid hT
  have HNE := Lib.hid hne
  have hp := run_thrown
  have hbl := h.blk.lt
  have HSL := Lib.hid hS
  clear h hT hne hS
  obtain ⟨i0, hi, hz0, hz1, hz2⟩ := info_parts info_int
  go_enter Tryd.func114, Tryd.ntmps114
  go_wp2_with (at_make; refine wpList_make_own _ rfl _ _ 74 rfl w.heap.size 3 i0 (.int .i64 0) 1 Tryd.underlying74 hi hz0 hz1 .i64 .i64 _ all rfl rfl rfl (by rw [hz2]; omega) (by unfold maxLen; omega) (Nat.le_refl _) ?_; intro w4 hown hgrow)
  have N4 := Lib.hid (show Nums w4 w.heap.size (.slice (some ⟨w.heap.size, 0, none⟩) 0 all) [] from hown)
  have K4 := Lib.hid (show Kept w w4 from Below.grown (Kept.refl w) hgrow (Nat.le_refl _) (fun k h => by cases h))
  clear hown hgrow hi hz0 hz1 hz2
  obtain ⟨q, hq⟩ : ∃ q, q = w.heap.size := ⟨_, rfl⟩
  have HQ := Lib.hid hq
  rw [← hq] at N4 hbl ⊢
  clear hq
  go_loopg [7] (all + 1) (fun m v wr => ∃ (f : Nat) (acc : List Nat) (tt g cap : Nat), m = f ∧ v = .slice (some ⟨g, 0, none⟩) acc.length cap ∧ Nums wr q (.slice (some ⟨g, 0, none⟩) acc.length cap) acc ∧ acc.length ≤ all ∧ Hid (∀ x ∈ acc, x ≤ 15) ∧ BiR w B0 b p c B tt ov gv wr ∧ tt ≤ 8 * B.length ∧ Hid (lensGo S B all f tt acc = lensGo S B all (all + 1) t []) ∧ all < acc.length + f)
  case atStart =>
    exact ⟨all + 1, [], t, q, all, rfl, rfl, N4.out, Nat.zero_le _, Lib.hid (by intro x hx; cases hx), ⟨HB.out.kept K4.out, gbK K4.out _⟩, h8, Lib.hid rfl, by simp⟩
  case round =>
    obtain ⟨fz, acc, tt, g, cap, hmf, rfl, hn, hla, HX, hbi, htt, HS, hfl⟩ := hrel
    have NN := Lib.hid hn
    have BI := Lib.hid hbi
    obtain ⟨n, hnl⟩ : ∃ n, n = acc.length := ⟨_, rfl⟩
    have HNL := Lib.hid hnl
    have hgq := (World.ownsRow.lt hn g rfl)
    have HT1 := Lib.hid (HT.out.move hbi.2.size fun x hx => hbi.2.block x (HT.out.lt x hx) (by intro e; injection e with e; subst e; exact HNE.out hx))
    have SY := Lib.hid (symbol_any S fp tb BI.out.1 htt hB HT1.out HNE.out (by rw [HSL.out]; decide))
    clear hn hbi
    simp only [← hnl] at hla hfl ⊢
    clear hnl
    by_cases hlt : n < all
    · obtain ⟨f, rfl⟩ : ∃ f, fz = f + 1 := ⟨fz - 1, by omega⟩
      have ilt : (n : Int) < (all : Int) := by omega
      go_wp2_with fail
      (with_reducible refine SY.out.mono ?_)
      intro e w5 hs5
      rcases hs5.cases with ⟨k', hr, rfl, hg5⟩ | ⟨s, t1, hr, rfl, hb5, ht1⟩
      · have HR := Lib.hid (show lensGo S B all (all + 1) t [] = .error k' by rw [← HS.out]; exact lens_no (by rw [← HNL.out]; exact hlt) hr)
        have G5 := Lib.hid (gbT BI.out.2 hg5)
        clear hs5 hr hg5
        go_wp2_with fail
        refine ⟨rfl, ?_⟩
        unfold LensA
        rw [HR.out]
        exact ⟨rfl, G5.out⟩
      · have HSY := Lib.hid hr
        have hs19 : s < 19 := by have := (sym_in hr).1; rw [HSL.out] at this; exact this
        have BI5 := Lib.hid (show BiR w B0 b p c B t1 ov gv w5 from ⟨hb5.1, gbT BI.out.2 hb5.2⟩)
        have NN5 := Lib.hid (show Nums w5 q (.slice (some ⟨g, 0, none⟩) acc.length cap) acc from NN.out.bi hbl hb5.2)
        have RU := Lib.hid (run_any s BI5.out.1 ht1 hB acc NN5.out (by omega) (by rw [← HNL.out]; omega) hs19)
        rw [← HNL.out] at RU
        clear hs5 hr hb5
        go_wp2_with fail
        (with_reducible refine RU.out.mono ?_)
        intro e w6 hs6
        rcases hs6.cases with ⟨k', hr, rfl, hg6⟩ | ⟨v, times, t2, hr, rfl, hb6, ht2⟩
        · have HR := Lib.hid (show lensGo S B all (all + 1) t [] = .error k' by rw [← HS.out]; exact lens_run (by rw [← HNL.out]; exact hlt) HSY.out hr)
          have G6 := Lib.hid (gbT BI5.out.2 hg6)
          clear hs6 hr hg6
          go_wp2_with fail
          refine ⟨rfl, ?_⟩
          unfold LensA
          rw [HR.out]
          exact ⟨rfl, G6.out⟩
        · have HRU := Lib.hid hr
          obtain ⟨hv15, h1t, ht138, -, -⟩ := runV_ok hr hs19 HX.out ht1
          have BI6 := Lib.hid (show BiR w B0 b p c B t2 ov gv w6 from ⟨hb6.1, gbT BI5.out.2 hb6.2⟩)
          have NN6 := Lib.hid (show Nums w6 q (.slice (some ⟨g, 0, none⟩) acc.length cap) acc from NN5.out.bi hbl hb6.2)
          clear hs6 hr hb6
          by_cases hmany : all - n < times
          · have im : (all : Int) - (n : Int) < (times : Int) := by omega
            have HR := Lib.hid (show lensGo S B all (all + 1) t [] = .error 3 by rw [← HS.out]; exact lens_many (by rw [← HNL.out]; exact hlt) HSY.out HRU.out (by rw [← HNL.out]; exact hmany))
            clear hmany
            go_wp2_with fail
            refine ⟨rfl, ?_⟩
            unfold LensA
            rw [HR.out]
            exact ⟨rfl, BI6.out.2⟩
          · have im : ¬ (all : Int) - (n : Int) < (times : Int) := by omega
            have HST := Lib.hid (show lensGo S B all f t2 (acc ++ List.replicate times v) = lensGo S B all (all + 1) t [] by
              rw [← HS.out]; exact (lens_step (by rw [← HNL.out]; exact hlt) HSY.out HRU.out (by rw [← HNL.out]; omega)).symm)
            have hnt : n + times ≤ all := by omega
            clear hmany
            go_wp2_with fail
            go_loopg [7, 35] (times + 1) (fun m x iv w' => ∃ (i g2 cap2 : Nat), m = times + 1 - i ∧ i ≤ times ∧ x = .slice (some ⟨g2, 0, none⟩) (n + i) cap2 ∧ iv = .int .i64 i ∧ Nums w' q (.slice (some ⟨g2, 0, none⟩) (n + i) cap2) (acc ++ List.replicate i v) ∧ BiR w B0 b p c B t2 ov gv w')
            case atStart =>
              exact ⟨0, g, cap, rfl, Nat.zero_le _, rfl, rfl, by rw [HNL.out]; simpa using NN6.out, BI6.out⟩
            case round =>
              obtain ⟨i, g2, cap2, hm2, hi2, rfl, rfl, hn2, hb2⟩ := hrel
              have N2 := Lib.hid hn2
              have B2 := Lib.hid hb2
              have hg2q := (World.ownsRow.lt hn2 g2 rfl)
              have hq2 : q ≤ wr.heap.size := by omega
              have HL2 := Lib.hid (show (acc ++ List.replicate i v).length = n + i by rw [List.length_append, List.length_replicate, HNL.out])
              clear hn2 hb2
              by_cases hit : i < times
              · go_wp2_with (at_builtin; refine wpList_app_nums rfl _ _ rfl N2.out rfl [v] _ rfl 1 rfl (by decide) rfl hq2 (by rw [HL2.out]; omega) ?_; intro g3 cap3 w7 hn7 hg7; rw [HL2.out] at hn7 ⊢; have N7 := Lib.hid hn7; have B7 := Lib.hid (biR_app B2.out (by rw [← HQ.out]; exact hbl) (by rw [← HQ.out]; exact hg2q.1) hg7); clear hn7 hg7)
                go_roundg (times + 1 - (i + 1))
                case measure => omega
                case rel =>
                  refine ⟨i + 1, g3, cap3, rfl, by omega, rfl, by go_num, ?_, B7.out⟩
                  have z := N7.out
                  rw [List.append_assoc, show List.replicate i v ++ [v] = List.replicate (i + 1) v by rw [List.replicate_succ']] at z
                  exact z
              · obtain rfl : i = times := by omega
                go_wp2_with fail
                go_roundg f
                case measure => omega
                case rel =>
                  refine ⟨f, acc ++ List.replicate i v, t2, g2, cap2, rfl, by rw [HL2.out], by rw [HL2.out]; exact N2.out, by rw [HL2.out]; exact hnt, Lib.hid ?_, B2.out, ht2, HST, by rw [HL2.out]; omega⟩
                  intro x hx2
                  rw [List.mem_append, List.mem_replicate] at hx2
                  rcases hx2 with h2 | ⟨-, h2⟩
                  · exact HX.out x h2
                  · omega
    · obtain rfl : n = all := by omega
      obtain ⟨f, rfl⟩ : ∃ f, fz = f + 1 := ⟨fz - 1, by omega⟩
      have HR := Lib.hid (show lensGo S B n (n + 1) t [] = .ok (acc, tt) by rw [← HS.out]; exact lens_end (by rw [← HNL.out]; exact Nat.le_refl _))
      go_wp2_with fail
      go_ret
      unfold LensA
      rw [HR.out]
      refine ⟨⟨g, cap, by rw [HNL.out]; rfl, ?_⟩, BI.out, htt⟩
      rw [← HQ.out]
      exact NN.out

end Go.Proofs.YtpplboihlndfpaaDoor
