/-
  The reference's copies.
-/
import Derived.Test.YtkobcgemllcfoaaDoorInfRefState
import Derived.Test.YtkobcgemllcfoaaDoorInfRefSym
import Derived.Deep.DeepCutAuto
import Derived.StillTailTactics
namespace Go.Proofs.YtkobcgemllcfoaaDoor
open Go.RowKit Ix
set_option linter.unusedSimpArgs false
set_option linter.unusedVariables false

/-- Behind an append, and a store. -/
theorem refPut_end {w w5 : World} {B0 b : Nat} {p : Option Addr} {c : Nat} {B : List UInt8} {t : Nat} {v : Value} {out : List UInt8} {e : Int} (h : Sw w B0 b p c B t v out e) {x : UInt8} {o : Obj} {g5 cap5 n : Nat}
    (ho : Out w5 (b + 1) (.slice (some ⟨g5, 0, none⟩) n cap5) (out ++ [x])) (hg : (w.alloc o).grownBy w5 v.ownBlock) (hat : v.ownBlock = some g5 ∨ g5 = w.heap.size + 1) (hl : out.length < 1048576) :
    SwR w B0 b p c B v (w5.setCell ⟨b, 2, none⟩ (.slice (some ⟨g5, 0, none⟩) n cap5)) t (.slice (some ⟨g5, 0, none⟩) n cap5) (out ++ [x]) e := by
  have hb := h.blk.lt
  have hlow := h.own.lt
  have key : ∀ j, j < w.heap.size → v.ownBlock ≠ some j → w5.heap[j]? = w.heap[j]? := fun j hj hv => (hg.block j (by simp; omega) (fun e => hv e.symm)).trans (Below.heap_alloc w o j hj)
  have hne : ∀ j, j ≤ b → v.ownBlock ≠ some j := fun j hj e => by have := (hlow j e).1; omega
  have hs : w.heap.size ≤ w5.heap.size := by have := hg.size; simp at this; omega
  have hbk : Blk w5 b #[.slice p B.length c, .int .i64 t, v, .int .i64 e] 76 := (key b hb (hne b (Nat.le_refl _))).trans h.blk
  have hg5 : g5 ≠ b := by
    rcases hat with e | e
    · have := (hlow g5 e).1; omega
    · omega
  refine ⟨⟨by simpa using hbk.set 2 (.slice (some ⟨g5, 0, none⟩) n cap5), fun i hi => ?_, h.low, ho.gb (gbS _ _ _ _) (.inr (by simp [Value.ownBlock]; exact hg5)), by rw [List.length_append, List.length_singleton]; omega, h.le⟩, ?_⟩
  · obtain ⟨k, o', hp, hk, hc⟩ := h.byt i hi
    have hl := h.low
    refine ⟨k, o', hp, hk, ?_⟩
    rw [← hc]
    exact World.cell?_of_block ((Below.heap_setCell w5 ⟨b, 2, none⟩ _ k (by show k ≠ b; omega)).trans (key k (by omega) (hne k (by omega))))
  · refine ⟨by rw [show (w5.setCell ⟨b, 2, none⟩ _).os = w5.os from rfl, hg.os]; rfl, by rw [show (w5.setCell ⟨b, 2, none⟩ _).tape = w5.tape from rfl, hg.tape]; rfl, by rw [show (w5.setCell ⟨b, 2, none⟩ _).output = w5.output from rfl, hg.output]; rfl, by simpa using hs, fun j hj hjb hv => ?_, ?_⟩
    · exact (Below.heap_setCell w5 ⟨b, 2, none⟩ _ j (by show j ≠ b; omega)).trans (key j hj hv)
    · rcases hat with e | e
      · exact .inl e.symm
      · exact .inr ⟨g5, rfl, by omega⟩

set_option maxRecDepth 100000 in
/-- A byte more. -/
theorem refPut_any {w : World} {B0 b : Nat} {p : Option Addr} {c : Nat} {B : List UInt8} {t : Nat} {v : Value} {out : List UInt8} {e : Int} (h : Sw w B0 b p c B t v out e) (x : UInt8) :
    Calls Tryd.prog 87 #[.pointer (some ⟨b, 0, none⟩), .int .u8 (x.toNat : Int)] w fun en w' => en = .returned (.tuple #[]) ∧ ((putV' out x = .error 6 ∧ SwR w B0 b p c B v w' t v out (ef e 6)) ∨ (putV' out x = .ok (out ++ [x]) ∧ ∃ v', SwR w B0 b p c B v w' t v' (out ++ [x]) e)) := by
  have HO := Lib.hid h
  have hlen := h.len
  obtain ⟨c0, c1, c2, c3⟩ := h.cells
  obtain ⟨sp, sc, hv⟩ : ∃ sp sc, v = .slice sp out.length sc := by
    rcases h.own.parts with ⟨rfl, rfl⟩ | ⟨g, cap, rfl, -, -⟩
    · exact ⟨none, 0, rfl⟩
    · exact ⟨_, cap, rfl⟩
  have HV := Lib.hid hv
  by_cases hm : out.length = 1048576
  · have HP := Lib.hid (show putV' out x = .error 6 from if_pos hm)
    have FA := Lib.hid (fail_any h 6)
    have i1 : (1048576 : Int) ≤ (out.length : Int) := by omega
    rw [hv] at c2
    clear h hv hm
    go_enter Tryd.func87, Tryd.ntmps87
    go_wp2_with fail
    (with_reducible refine FA.out.mono ?_)
    rintro en w2 ⟨rfl, hs2⟩
    have HR2 := Lib.hid hs2
    clear hs2
    go_wp2_with fail
    refine bodyPost_ret (results_none rfl _ _ _) rfl ?_
    exact ⟨rfl, .inl ⟨HP.out, HR2.out⟩⟩
  · have HP := Lib.hid (show putV' out x = .ok (out ++ [x]) from if_neg hm)
    have i1 : ¬ (1048576 : Int) ≤ (out.length : Int) := by omega
    have hbl := h.blk.lt
    rw [hv] at c2
    have HLT := Lib.hid (show out.length < 1048576 by omega)
    clear h hv hm
    go_enter Tryd.func87, Tryd.ntmps87
    go_wp2_with (at_builtin; refine wpList_app_out rfl _ _ rfl HO.out.own x (by rw [HV.out]; rfl) rfl (by omega) (by omega) ?_; intro g5 cap5 w5 ho5 hg5 hat5; have HB5 := Lib.hid (show Blk w5 b #[.slice p B.length c, .int .i64 t, .slice sp out.length sc, .int .i64 e] 76 from (hg5.block b (by simp; omega) (fun e9 => by rcases HO.out.ne with h9 | h9 <;> simp_all)).trans (by rw [← HV.out]; exact HO.out.blk.alloc _)); obtain ⟨d0, d1, d2, d3⟩ := HB5.out.cells4; have d4 := HB5.out.free)
    refine bodyPost_end (results_none rfl _ _ _) rfl ?_
    exact ⟨rfl, .inr ⟨HP.out, _, refPut_end HO.out ho5 hg5 hat5 HLT.out⟩⟩

/-- How many bits more, and where they begin. -/
theorem shl_more {n : Nat} (h : n ≤ 15) : wrap64 (2 ^ n) = ((2 ^ n : Nat) : Int) := by
  have key : (List.range 16).all (fun n => wrap64 (2 ^ n) == ((2 ^ n : Nat) : Int)) = true := by kernel_rfl
  exact beq_iff_eq.1 (List.all_eq_true.1 key n (List.mem_range.2 (by omega)))
theorem wrap_pow {s n : Nat} (hs : s ≤ 3000000) (hn : n ≤ 15) : wrap64 ((s : Int) + wrap64 (2 ^ n)) = ((s + 2 ^ n : Nat) : Int) := by
  have hp : 2 ^ n ≤ 2 ^ 15 := Nat.pow_le_pow_right (by decide) hn
  rw [shl_more hn, ← Int.natCast_add]
  generalize 2 ^ n = y at hp
  unfold wrap64
  omega
theorem wrap_one1 {s : Nat} (hs : s ≤ 3000000) : wrap64 ((s : Int) + wrap64 1) = ((s + 1 : Nat) : Int) := by
  unfold wrap64
  omega

set_option maxRecDepth 100000 in
theorem more_any (k base each : Nat) (w : World) (hk : k ≤ 31) (hb : base ≤ 3) (h2 : 2 ≤ each) (he : each ≤ 4) :
    Calls Tryd.prog 116 #[.int .i64 k, .int .i64 base, .int .i64 each] w fun en w' => en = .returned (.tuple #[.int .i64 (k / each - 1 : Nat), .int .i64 (moreB base each k)]) ∧ w' = w := by
  have f0 : ¬ (each : Int) = 0 := by omega
  have f1 : ((each : Int) == 0) = false := by rw [beq_eq_false_iff_ne]; exact f0
  go_enter Tryd.func116, Tryd.ntmps116
  go_wp2_with fail
  go_loopg [8, 9, 10] (k + 1) (fun m sv nv iv wr => ∃ i s : Nat, m = k + 1 - i ∧ i ≤ k ∧ sv = .int .i64 s ∧ Hid (s = moreB base each i) ∧ s ≤ 3000000 ∧ iv = .int .i64 i ∧ wr = w)
  case atStart => exact ⟨0, base, rfl, Nat.zero_le _, rfl, Lib.hid rfl, by omega, rfl, rfl⟩
  case round =>
    obtain ⟨i, s, hm, hi, rfl, HS, hs, rfl, rfl⟩ := hrel
    have hdi : (i : Int) / (each : Int) = ((i / each : Nat) : Int) := by simp
    have hq : i / each ≤ 16 := by
      have : i / each ≤ i / 2 := Nat.div_le_div_left h2 (by decide)
      omega
    have HM := Lib.hid (show ∀ x, x = moreB base each (i + 1) → i < k → x ≤ 3000000 from fun x hx hik => by
      have := more_le base each hb (i + 1) (by omega) h2
      omega)
    by_cases hlt : i < k
    · obtain ⟨q, hqq⟩ : ∃ q, q = i / each := ⟨_, rfl⟩
      have HY := Lib.hid (show moreB base each (i + 1) = s + 2 ^ (q - 1) by rw [moreB, ← HS.out, hqq])
      rw [← hqq] at hq hdi
      clear hqq
      by_cases hq1 : q ≤ 1
      · have g0 : ¬ (0 : Int) < (q : Int) - 1 := by omega
        have g1 : (q : Int) - 1 ≤ 0 := by omega
        have HW := Lib.hid (wrap_one1 hs)
        have HQ := Lib.hid (show q - 1 = 0 by omega)
        clear hq1
        go_wp2_with fail
        go_roundg (k + 1 - (i + 1))
        case measure => omega
        case rel =>
          have e := HY.out
          rw [HQ.out] at e
          exact ⟨i + 1, s + 1, rfl, by omega, by first | rw [HW.out] | go_num, Lib.hid e.symm, HM.out _ e.symm hlt, by go_num, rfl⟩
      · have g0 : (0 : Int) < (q : Int) - 1 := by omega
        have g1 : ¬ (q : Int) - 1 ≤ 0 := by omega
        have g2 : ¬ (q : Int) - 1 < 0 := by omega
        have HW := Lib.hid (wrap_pow hs (show q - 1 ≤ 15 by omega))
        clear hq1
        go_wp2_with fail
        go_roundg (k + 1 - (i + 1))
        case measure => omega
        case rel => exact ⟨i + 1, s + 2 ^ (q - 1), rfl, by omega, by rw [HW.out], Lib.hid HY.out.symm, HM.out _ HY.out.symm hlt, by go_num, rfl⟩
    · obtain rfl : i = k := by omega
      obtain ⟨q, hqq⟩ : ∃ q, q = i / each := ⟨_, rfl⟩
      have HQ := Lib.hid hqq
      rw [← hqq] at hdi hq
      clear hqq HM
      by_cases hq1 : q ≤ 1
      · have g0 : ¬ (0 : Int) < (q : Int) - 1 := by omega
        have g1 : (q : Int) - 1 ≤ 0 := by omega
        go_wp2_with fail
        go_ret2
        exact ⟨by rw [HS.out, ← HQ.out, show q - 1 = 0 by omega]; rfl, rfl⟩
      · have g0 : (0 : Int) < (q : Int) - 1 := by omega
        have g1 : ¬ (q : Int) - 1 ≤ 0 := by omega
        have g2 : ¬ (q : Int) - 1 < 0 := by omega
        go_wp2_with fail
        go_ret2
        exact ⟨by rw [HS.out, ← HQ.out, show ((q - 1 : Nat) : Int) = (q : Int) - 1 by omega]; rfl, rfl⟩

/-- A length's symbol, and what stands so far back. -/
def copiesV (D : List Nat) (B : List UInt8) (s t : Nat) (out : List UInt8) : Except Int (List UInt8 × Nat) :=
  match lenV B s t with
  | .error e => .error e
  | .ok (n, t1) => match distV D B t1 with
    | .error e => .error e
    | .ok (back, t2) => match againV n back out with
      | .error e => .error e
      | .ok o => .ok (o, t2)
theorem copies_len {D : List Nat} {B : List UInt8} {s t : Nat} {out : List UInt8} {k : Int} (h : lenV B s t = .error k) : copiesV D B s t out = .error k := by unfold copiesV; rw [h]
theorem copies_dist {D : List Nat} {B : List UInt8} {s t n t1 : Nat} {out : List UInt8} {k : Int} (h : lenV B s t = .ok (n, t1)) (h2 : distV D B t1 = .error k) : copiesV D B s t out = .error k := by unfold copiesV; rw [h]; simp only [h2]
theorem copies_again {D : List Nat} {B : List UInt8} {s t n t1 back t2 : Nat} {out : List UInt8} (h : lenV B s t = .ok (n, t1)) (h2 : distV D B t1 = .ok (back, t2)) :
    (∀ k, againV n back out = .error k → copiesV D B s t out = .error k) ∧ ∀ o, againV n back out = .ok o → copiesV D B s t out = .ok (o, t2) := by
  unfold copiesV; rw [h]; simp only [h2]
  exact ⟨fun k hk => by rw [hk], fun o ho => by rw [ho]⟩
theorem dist_sym {D : List Nat} {B : List UInt8} {t : Nat} {k : Int} (h : sym D B t = .error k) : distV D B t = .error k := by unfold distV; rw [h]
theorem dist_big {D : List Nat} {B : List UInt8} {t s t1 : Nat} (h : sym D B t = .ok (s, t1)) (h2 : 29 < s) : distV D B t = .error 3 := by unfold distV; rw [h]; simp only; rw [if_pos h2]
theorem dist_span {D : List Nat} {B : List UInt8} {t s t1 : Nat} (h : sym D B t = .ok (s, t1)) (h2 : s ≤ 29) : distV D B t = if t1 + (s / 2 - 1) ≤ 8 * B.length then .ok (moreB 1 2 s + numAt B (s / 2 - 1) t1, t1 + (s / 2 - 1)) else .error 4 := by
  obtain ⟨e1, e2⟩ := more2_is s (by omega)
  unfold distV; rw [h]; simp only; rw [if_neg (by omega)]
  unfold spanV
  rw [← e2, e1]
  by_cases hle : t1 + (s / 2 - 1) ≤ 8 * B.length
  · rw [if_pos hle, if_pos hle]; simp only [Nat.add_assoc]
  · rw [if_neg hle, if_neg hle]
theorem len_span {B : List UInt8} {s t : Nat} (h1 : 257 ≤ s) (h2 : s < 285) : lenV B s t = if t + ((s - 257) / 4 - 1) ≤ 8 * B.length then .ok (moreB 3 4 (s - 257) + numAt B ((s - 257) / 4 - 1) t, t + ((s - 257) / 4 - 1)) else .error 4 := by
  obtain ⟨e1, e2⟩ := more4_is (s - 257) (by omega)
  unfold lenV
  rw [if_neg (by omega)]
  generalize s - 257 = y at e1 e2 ⊢
  unfold spanV
  rw [← e2, e1]
  by_cases hle : t + (y / 4 - 1) ≤ 8 * B.length
  · rw [if_pos hle, if_pos hle]; simp only [Nat.add_assoc]
  · rw [if_neg hle, if_neg hle]
theorem len_last {B : List UInt8} {t : Nat} (h : t ≤ 8 * B.length) : lenV B 285 t = if t + 0 ≤ 8 * B.length then .ok (258 + numAt B 0 t, t + 0) else .error 4 := by
  rw [if_pos (by omega)]; rfl
theorem again_succ (back n : Nat) (out : List UInt8) : (∀ k, putV' out (out.getD (out.length - back) 0) = .error k → againGo back (n + 1) out = .error k) ∧ ∀ o, putV' out (out.getD (out.length - back) 0) = .ok o → againGo back (n + 1) out = againGo back n o :=
  ⟨fun k h => by rw [againGo, h], fun o h => by rw [againGo, h]⟩
theorem more_lit (k base each : Nat) (zb ze : Int) (hzb : zb = (base : Int)) (hze : ze = (each : Int)) (w : World) (hk : k ≤ 31) (hb : base ≤ 3) (h2 : 2 ≤ each) (he : each ≤ 4) :
    Calls Tryd.prog 116 #[.int .i64 k, .int .i64 zb, .int .i64 ze] w fun en w' => en = .returned (.tuple #[.int .i64 (k / each - 1 : Nat), .int .i64 (moreB base each k)]) ∧ w' = w := by
  subst hzb hze
  exact more_any k base each w hk hb h2 he
/-- What copies leaves. -/
def CopA (w : World) (B0 b : Nat) (p : Option Addr) (c : Nat) (B : List UInt8) (v : Value) (r : Except Int (List UInt8 × Nat)) (en : Ending) (w' : World) : Prop :=
  en = .returned (.tuple #[]) ∧ ((∃ o t' v', r = .ok (o, t') ∧ SwR w B0 b p c B v w' t' v' o 0) ∨ ∃ k t' v' o, r = .error k ∧ k ≠ 0 ∧ SwR w B0 b p c B v w' t' v' o k)
theorem copA_no {w : World} {B0 b : Nat} {p : Option Addr} {c : Nat} {B : List UInt8} {v : Value} {r : Except Int (List UInt8 × Nat)} {w' : World} {k : Int} {t' : Nat} {v' : Value} {o : List UInt8} (hr : r = .error k) (hk : k ≠ 0) (h : SwR w B0 b p c B v w' t' v' o k) : CopA w B0 b p c B v r (.returned (.tuple #[])) w' := ⟨rfl, .inr ⟨k, t', v', o, hr, hk, h⟩⟩

set_option maxRecDepth 100000 in
set_option maxHeartbeats 4000000 in
theorem refCopies_any (s : Nat) (D : List Nat) (lv cv : Value) {w : World} {B0 b : Nat} {p : Option Addr} {c : Nat} {B : List UInt8} {t : Nat} {v : Value} {out : List UInt8} (h : Sw w B0 b p c B t v out 0) (hB : B.length ≤ 1099511627776)
    (hl : Ro w b v lv D) (hc : Ro w b v cv (codes D)) (hD : D.length ≤ 1000) (h1 : 257 ≤ s) (h2 : s ≤ 285) :
    Calls Tryd.prog 89 #[.pointer (some ⟨b, 0, none⟩), .int .i64 s, lv, cv] w (CopA w B0 b p c B v (copiesV D B s t out)) := by
  have HS := Lib.hid h
  have HLV := Lib.hid hl
  have HCV := Lib.hid hc
  have HLE := Lib.hid h.le
  obtain ⟨k, hk⟩ : ∃ k, s = 257 + k := ⟨s - 257, by omega⟩
  have hk28 : k ≤ 28 := by omega
  have MO := Lib.hid (more_lit k 3 4 3 4 rfl rfl w (by omega) (by decide) (by decide) (by decide))
  have hml := more_le 3 4 (by decide) k (by omega) (by decide)
  have hsk : (s : Int) - 257 = (k : Int) := by omega
  have HK := Lib.hid hk
  clear h hl hc hk
  go_enter Tryd.func89, Tryd.ntmps89
  go_wp2_with fail
  (with_reducible refine MO.out.mono ?_)
  rintro en w1 ⟨rfl, rfl⟩
  go_upto_if 21 with fail
  go_cut [8, 9] (fun nv fv wc => ∃ n0 f0 : Nat, nv = .int .i64 n0 ∧ fv = .int .i64 f0 ∧ n0 ≤ 16 ∧ f0 ≤ 3000000 ∧ Hid (lenV B s t = if t + n0 ≤ 8 * B.length then .ok (f0 + numAt B n0 t, t + n0) else .error 4) ∧ wc = w1)
  case first =>
    by_cases h285 : s = 285
    · have f0 : ((s : Int) == 285) = true := by rw [beq_iff_eq]; omega
      have H5 := Lib.hid h285
      clear h285
      go_wp2_with fail
      go_meet
      exact ⟨0, 258, rfl, rfl, by decide, by decide, Lib.hid (by rw [H5.out]; exact len_last HLE.out), rfl⟩
    · have f0 : ((s : Int) == 285) = false := by rw [beq_eq_false_iff_ne]; omega
      have HLN := Lib.hid (len_span (B := B) (t := t) h1 (by omega))
      have hk4 : k / 4 - 1 ≤ 16 := by omega
      go_wp2_with fail
      go_meet
      refine ⟨k / 4 - 1, moreB 3 4 k, rfl, rfl, hk4, by omega, Lib.hid ?_, rfl⟩
      have e := HK.out
      rw [HLN.out, show s - 257 = k by omega]
  case rest =>
    obtain ⟨n0, f0, rfl, rfl, hn0, hf0, HLN, rfl⟩ := hcut
    have BA := Lib.hid (bits_any n0 HS.out hn0 hB)
    clear MO hml hk28 hsk
    go_wp2_with fail
    (with_reducible refine BA.out.mono ?_)
    intro en w2 hb
    rcases hb with ⟨hle, rfl, hs2⟩ | ⟨hle, rfl, hs2⟩
    rotate_left
    · have HV := Lib.hid (copies_len (D := D) (out := out) (HLN.out.trans (if_neg hle)))
      have HR2 := Lib.hid hs2
      have hef : ef 0 4 = 4 := rfl
      rw [hef] at HR2
      obtain ⟨pl, cl, e1, -⟩ := HLV.out
      obtain ⟨pc, cc, e2, -⟩ := HCV.out
      subst e1 e2
      have SE := Lib.hid (refSymbol_err pl pc D.length cl (codes D).length cc HR2.out.st hB (by decide))
      clear hs2 hef
      go_wp2_with fail
      (with_reducible refine SE.out.mono ?_)
      rintro en w3 ⟨rfl, t3, hs3⟩
      have HR3 := Lib.hid (HR2.out.then hs3)
      obtain ⟨c0, c1, c2, c3⟩ := HR3.out.st.cells
      clear hs3
      go_wp2_with fail
      refine bodyPost_ret (results_none rfl _ _ _) rfl ?_
      exact copA_no HV.out (by decide) HR3.out
    · have HR2 := Lib.hid hs2
      have hx16 := numAt_16 B t n0 hn0
      obtain ⟨x, hx⟩ : ∃ x, x = numAt B n0 t := ⟨_, rfl⟩
      have HLN2 := Lib.hid (show lenV B s t = .ok (f0 + x, t + n0) by rw [HLN.out, if_pos hle, hx])
      rw [← hx] at hx16 ⊢
      have SY := Lib.hid (refSymbol_any D lv cv HR2.out.st hB (HLV.out.gr HR2.out.gr) (HCV.out.gr HR2.out.gr) hD)
      clear hs2 hx hle
      go_wp2_with fail
      (with_reducible refine SY.out.mono ?_)
      intro en w3 hsy
      rcases hsy with ⟨d, t3, hr, rfl, hs3⟩ | ⟨k', t3, hr, hk0, rfl, hs3⟩
      rotate_left
      · have HV := Lib.hid (copies_dist (out := out) HLN2.out (dist_sym hr))
        have HR3 := Lib.hid (HR2.out.then hs3)
        obtain ⟨c0, c1, c2, c3⟩ := HR3.out.st.cells
        have hk1 : (k' != 0) = true := by rw [bne_iff_ne]; exact hk0
        have HK0 := Lib.hid hk0
        clear hs3 hr hk0
        go_wp2_with fail
        refine bodyPost_ret (results_none rfl _ _ _) rfl ?_
        exact copA_no HV.out HK0.out HR3.out
      · have HR3 := Lib.hid (HR2.out.then hs3)
        obtain ⟨c0, c1, c2, c3⟩ := HR3.out.st.cells
        have hdl := (sym_in hr).1
        have HSY := Lib.hid hr
        clear hs3 hr
        by_cases hd29 : 29 < d
        · have i1 : (29 : Int) < (d : Int) := by omega
          have HV := Lib.hid (copies_dist (out := out) HLN2.out (dist_big HSY.out hd29))
          have FA := Lib.hid (fail_any HR3.out.st 3)
          clear hd29
          go_wp2_with fail
          (with_reducible refine FA.out.mono ?_)
          rintro en w4 ⟨rfl, hs4⟩
          have HR4 := Lib.hid (HR3.out.then hs4)
          clear hs4
          go_wp2_with fail
          refine bodyPost_ret (results_none rfl _ _ _) rfl ?_
          exact copA_no HV.out (by decide) HR4.out
        · have i1 : ¬ (29 : Int) < (d : Int) := by omega
          have HDS := Lib.hid (dist_span HSY.out (by omega))
          have MO2 := Lib.hid (more_lit d 1 2 1 2 rfl rfl w3 (by omega) (by decide) (by decide) (by decide))
          have hml := more_le 1 2 (by decide) d (by omega) (by decide)
          have hd2 : d / 2 - 1 ≤ 16 := by omega
          obtain ⟨n1, hn1⟩ : ∃ n1, n1 = d / 2 - 1 := ⟨_, rfl⟩
          obtain ⟨f1, hf1⟩ : ∃ f1, f1 = moreB 1 2 d := ⟨_, rfl⟩
          rw [← hn1, ← hf1] at HDS MO2
          rw [← hf1] at hml
          rw [← hn1] at hd2
          have hf1b : f1 ≤ 3000000 := by omega
          have HF1 := Lib.hid (show 1 ≤ f1 by
            have e := (more2_is d (by omega)).1
            omega)
          clear hd29 hn1 hf1 hml
          go_wp2_with fail
          (with_reducible refine MO2.out.mono ?_)
          rintro en w4 ⟨rfl, rfl⟩
          have BA2 := Lib.hid (bits_any n1 HR3.out.st hd2 hB)
          go_wp2_with fail
          (with_reducible refine BA2.out.mono ?_)
          intro en w5 hb
          rcases hb with ⟨hle, rfl, hs5⟩ | ⟨hle, rfl, hs5⟩
          rotate_left
          · have HV := Lib.hid (copies_dist (out := out) HLN2.out (HDS.out.trans (if_neg hle)))
            have hef : ef 0 4 = 4 := rfl
            rw [hef] at hs5
            have HR5 := Lib.hid (HR3.out.then hs5)
            obtain ⟨c0, c1, c2, c3⟩ := HR5.out.st.cells
            clear hs5 hef
            go_wp2_with fail
            go_loopg [13] 1 (fun m iv wr => m = 1 ∧ iv = .int .i64 0 ∧ wr = w5)
            case atStart => exact ⟨rfl, rfl, rfl⟩
            case round =>
              obtain ⟨hm, rfl, rfl⟩ := hrel
              by_cases hpos : (0 : Int) < ((f0 + x : Nat) : Int)
              · go_wp2_with fail
                refine bodyPost_end (results_none rfl _ _ _) rfl ?_
                exact copA_no HV.out (by decide) HR5.out
              · go_wp2_with fail
                refine bodyPost_end (results_none rfl _ _ _) rfl ?_
                exact copA_no HV.out (by decide) HR5.out
          · have HR5 := Lib.hid (HR3.out.then hs5)
            have hy16 := numAt_16 B t3 n1 hd2
            obtain ⟨y, hy⟩ : ∃ y, y = numAt B n1 t3 := ⟨_, rfl⟩
            have HDI := Lib.hid (show distV D B (t + n0) = .ok (f1 + y, t3 + n1) by rw [HDS.out, if_pos hle, hy])
            rw [← hy] at hy16 ⊢
            have HCO := Lib.hid (copies_again (out := out) HLN2.out HDI.out)
            obtain ⟨N, hN⟩ : ∃ N, N = f0 + x := ⟨_, rfl⟩
            obtain ⟨back, hback⟩ : ∃ back, back = f1 + y := ⟨_, rfl⟩
            have hNI : (f0 : Int) + (x : Int) = (N : Int) := by omega
            have hbI : (f1 : Int) + (y : Int) = (back : Int) := by omega
            rw [← hN, ← hback] at HCO
            have hb1 : 1 ≤ back := by have := HF1.out; omega
            have hb2 : back ≤ 3100000 := by omega
            have hN2 : N ≤ 3100000 := by omega
            obtain ⟨c0, c1, c2, c3⟩ := HR5.out.st.cells
            obtain ⟨sp, sc, hv⟩ : ∃ sp sc, v = .slice sp out.length sc := by
              rcases HR5.out.st.own.parts with ⟨rfl, rfl⟩ | ⟨g, cap, rfl, -, -⟩
              · exact ⟨none, 0, rfl⟩
              · exact ⟨_, cap, rfl⟩
            have HVV := Lib.hid hv
            rw [hv] at c2
            have hol := HR5.out.st.len
            clear hs5 hy hle hv hN hback hy16 hx16
            simp only [hNI]
            by_cases hbig : out.length < back
            · have i2 : (out.length : Int) < (back : Int) := by omega
              have HV := Lib.hid (HCO.out.1 3 (if_pos hbig))
              have FA := Lib.hid (fail_any HR5.out.st 3)
              clear hbig
              go_wp2_with fail
              (with_reducible refine FA.out.mono ?_)
              rintro en w6 ⟨rfl, hs6⟩
              have HR6 := Lib.hid (HR5.out.then hs6)
              have hef : ef 0 3 = 3 := rfl
              rw [hef] at HR6
              obtain ⟨c0, c1, c2, c3⟩ := HR6.out.st.cells
              clear hs6 hef
              go_wp2_with fail
              go_loopg [13] 1 (fun m iv wr => m = 1 ∧ iv = .int .i64 0 ∧ wr = w6)
              case atStart => exact ⟨rfl, rfl, rfl⟩
              case round =>
                obtain ⟨hm, rfl, rfl⟩ := hrel
                by_cases hpos : (0 : Int) < (N : Int)
                · go_wp2_with fail
                  refine bodyPost_end (results_none rfl _ _ _) rfl ?_
                  exact copA_no HV.out (by decide) HR6.out
                · go_wp2_with fail
                  refine bodyPost_end (results_none rfl _ _ _) rfl ?_
                  exact copA_no HV.out (by decide) HR6.out
            · have i2 : ¬ (out.length : Int) < (back : Int) := by omega
              have HAV := Lib.hid (show againV N back out = againGo back N out from if_neg hbig)
              have hob : back ≤ out.length := by omega
              clear hbig
              go_wp2_with fail
              clear c0 c1 c2 c3
              go_loopg [13] (N + 2) (fun m iv wr => ∃ (i : Nat) (o : List UInt8) (v1 : Value) (e1 : Int), m = N + 2 - i ∧ i ≤ N + 1 ∧ iv = .int .i64 i ∧ SwR wc B0 b p c B v wr (t3 + n1) v1 o e1 ∧ ((e1 = 0 ∧ i ≤ N ∧ back ≤ o.length ∧ Hid (againGo back (N - i) o = againGo back N out)) ∨ (e1 = 6 ∧ Hid (againGo back N out = .error 6))))
              case atStart => exact ⟨0, out, v, 0, rfl, Nat.zero_le _, rfl, HR5.out, .inl ⟨rfl, Nat.zero_le _, hob, Lib.hid rfl⟩⟩
              case round =>
                obtain ⟨i, o, v1, e1, hm, hi, rfl, hs, hst⟩ := hrel
                have HR7 := Lib.hid hs
                clear hs
                rcases hst with ⟨rfl, hiN, hbo, HG⟩ | ⟨rfl, HG⟩
                · by_cases hlt : i < N
                  · obtain ⟨c0, c1, c2, c3⟩ := HR7.out.st.cells
                    obtain ⟨g, cap, hv1, -, hcell⟩ : ∃ g cap, v1 = .slice (some ⟨g, 0, none⟩) o.length cap ∧ b + 1 ≤ g ∧ ∀ (m : Nat) (hm : m < o.length), wr.cell? ⟨g, m, none⟩ = some (.int .u8 (o[m].toNat : Int)) := by
                      rcases HR7.out.st.own.parts with ⟨rfl, rfl⟩ | hh
                      · simp at hbo; omega
                      · exact hh
                    rw [hv1] at c2
                    obtain ⟨d', hd'⟩ : ∃ d', o.length = d' + back := ⟨o.length - back, by omega⟩
                    have hdo : d' < o.length := by omega
                    have hcd := hcell d' hdo
                    have HX0 := Lib.hid (show o.getD (o.length - back) 0 = o[d'] by rw [show o.length - back = d' by omega]; simp [List.getD, hdo])
                    obtain ⟨z, hz⟩ : ∃ z, z = o.getD (o.length - back) 0 := ⟨_, rfl⟩
                    have HZ := Lib.hid hz
                    rw [show o[d'] = z from by rw [hz, HX0.out]] at hcd
                    have PU := Lib.hid (fun w' (k : Kept wr w') => refPut_any (HR7.out.kept k).st z)
                    have hol7 := HR7.out.st.len
                    have s1 : (o.length : Int) - (back : Int) = (d' : Int) := by omega
                    have s2 : (d' : Int) < (o.length : Int) := by omega
                    have s3 : IntKind.i64.wrap (d' : Int) = (d' : Int) := IntWalk.i64_in _ (by omega)
                    have s4 : (0 : Int) ≤ (d' : Int) := by omega
                    have s5 : (i : Int) < (N : Int) := by omega
                    have HD' := Lib.hid hd'
                    obtain ⟨nn, hnn⟩ : ∃ nn, N - i = nn + 1 := ⟨N - i - 1, by omega⟩
                    have HNN := Lib.hid hnn
                    clear hz hcell hv1 hd' hnn
                    go_wp2_with fail
                    go_still_tail 14, (by kernel_rfl)
                    change wpList _ _ _ _ _ wr.drew
                    go_wp2_with fail
                    (with_reducible refine (PU.out _ (Kept.refl wr).drew).mono ?_)
                    intro en w8 hput
                    obtain ⟨rfl, hp8 | ⟨hp8, v8, hs8⟩⟩ := hput
                    · have HG8 := Lib.hid (show againGo back N out = .error 6 by rw [← HG.out, HNN.out]; exact (again_succ back nn o).1 6 (by rw [← HZ.out]; exact hp8.1))
                      have HR8 := Lib.hid ((HR7.out.kept (Kept.refl wr).drew).then hp8.2)
                      clear hp8
                      go_wp2_with fail
                      go_roundg (N + 2 - (i + 1))
                      case measure => omega
                      case rel => exact ⟨i + 1, o, v1, 6, rfl, by omega, by go_num, HR8.out, .inr ⟨rfl, HG8⟩⟩
                    · have HG8 := Lib.hid (show againGo back (N - (i + 1)) (o ++ [z]) = againGo back N out by
                        rw [← HG.out, HNN.out, (again_succ back nn o).2 (o ++ [z]) (by rw [← HZ.out]; exact hp8)]
                        have := HNN.out
                        rw [show N - (i + 1) = nn by omega])
                      have HR8 := Lib.hid ((HR7.out.kept (Kept.refl wr).drew).then hs8)
                      clear hp8 hs8
                      go_wp2_with fail
                      go_roundg (N + 2 - (i + 1))
                      case measure => omega
                      case rel => exact ⟨i + 1, o ++ [z], v8, 0, rfl, by omega, by go_num, HR8.out, .inl ⟨rfl, by omega, by rw [List.length_append]; omega, HG8⟩⟩
                  · obtain rfl : i = N := by omega
                    have HF := Lib.hid (show againV i back out = .ok o by rw [HAV.out, ← HG.out, Nat.sub_self]; rfl)
                    have HV := Lib.hid (HCO.out.2 o HF.out)
                    go_wp2_with fail
                    refine bodyPost_end (results_none rfl _ _ _) rfl ?_
                    exact ⟨rfl, .inl ⟨o, _, v1, HV.out, HR7.out⟩⟩
                · have HV := Lib.hid (HCO.out.1 6 (HAV.out.trans HG.out))
                  obtain ⟨c0, c1, c2, c3⟩ := HR7.out.st.cells
                  by_cases hlt : (i : Int) < (N : Int)
                  · go_wp2_with fail
                    refine bodyPost_end (results_none rfl _ _ _) rfl ?_
                    exact copA_no HV.out (by decide) HR7.out
                  · go_wp2_with fail
                    refine bodyPost_end (results_none rfl _ _ _) rfl ?_
                    exact copA_no HV.out (by decide) HR7.out

end Go.Proofs.YtkobcgemllcfoaaDoor
