/-
  The codes of lengths: mayLack, Codes.
-/
import Derived.Test.YtpplboihlndfpaaInfFirsts
import Derived.OwnWalk
import Derived.Deep.RegionHeld3
import Derived.Deep.DeepCutAuto
namespace Go.Proofs.Ytpplboihlndfpaa
open Go.RowKit Ix
set_option linter.unusedSimpArgs false
set_option linter.unusedVariables false

theorem lack_int (L : List Nat) : (((L.length : Int) - cnt L 0 == 0) = false → (((L.length : Int) - cnt L 0 == 1) && ((cnt L 1 : Int) == 1)) = lack L) ∧ (((L.length : Int) - cnt L 0 == 0) = true → lack L = true) := by
  have h := cnt_le L 0
  unfold lack used
  constructor
  · intro h0
    rw [beq_eq_false_iff_ne] at h0
    rw [show (L.length - cnt L 0 == 0) = false by rw [beq_eq_false_iff_ne]; omega, Bool.false_or]
    congr 1
    · rw [Bool.eq_iff_iff, beq_iff_eq, beq_iff_eq]; omega
    · rw [Bool.eq_iff_iff, beq_iff_eq, beq_iff_eq]; omega
  · intro h0
    rw [beq_iff_eq] at h0
    rw [show (L.length - cnt L 0 == 0) = true by rw [beq_iff_eq]; omega, Bool.true_or]

set_option maxRecDepth 100000 in
theorem mayLack_any (L : List Nat) (b : Nat) (w : World) (h : Arr w b 16 (fun n => (cnt L n : Int)) 83) (hL : L.length ≤ 65536) :
    Calls Try.prog 42 #[.pointer (some ⟨b, 0, none⟩), .int .i64 L.length] w fun e w' => e = .returned (.bool (lack L)) ∧ Kept w w' := by
  have c0 := h.cell 0 (by decide)
  have c1 := h.cell 1 (by decide)
  have h0 := cnt_le L 0
  have HK := Lib.hid (lack_int L)
  obtain ⟨x, hx⟩ : ∃ x, x = cnt L 0 := ⟨_, rfl⟩
  obtain ⟨y, hy⟩ : ∃ y, y = cnt L 1 := ⟨_, rfl⟩
  obtain ⟨n, hn⟩ : ∃ n, n = L.length := ⟨_, rfl⟩
  simp only [← hx, ← hy, ← hn] at c0 c1 h0 HK ⊢
  simp only [← hn] at hL
  clear hx hy hn h
  by_cases e0 : ((n : Int) - x == 0) = true
  · have HE := Lib.hid (HK.out.2 e0)
    go_enter Try.func42, Try.ntmps42
    go_wp2_with fail
    go_ret
    exact ⟨by rw [HE.out]; rfl, Kept.refl w⟩
  · have e0 := Bool.eq_false_iff.2 e0
    have HE := Lib.hid (HK.out.1 e0)
    by_cases e1 : ((n : Int) - x == 1) = true
    · go_enter Try.func42, Try.ntmps42
      go_wp2_with fail
      go_ret
      exact ⟨by rw [← HE.out, e1]; rfl, Kept.refl w⟩
    · have e1 := Bool.eq_false_iff.2 e1
      go_enter Try.func42, Try.ntmps42
      go_wp2_with fail
      go_ret
      exact ⟨by rw [← HE.out, e1]; rfl, Kept.refl w⟩

/-- Numbers that can be read. -/
def IntsR (w : World) (p : Option Addr) (X : List Int) : Prop := ∀ i (h : i < X.length), ∃ k o, p = some ⟨k, o, none⟩ ∧ k < w.heap.size ∧ w.cell? ⟨k, o + i, none⟩ = some (.int .i64 X[i])
theorem IntsR.kept {w w' : World} {p : Option Addr} {X : List Int} (h : IntsR w p X) (k : Kept w w') : IntsR w' p X := by
  intro i hi
  obtain ⟨kb, o, hp, hk, hc⟩ := h i hi
  exact ⟨kb, o, hp, Nat.lt_of_lt_of_le hk (Below.size k), by rw [← hc]; exact k.cells.1 _ _ hk⟩

def inR (x : Int) : Bool := decide (0 ≤ x) && decide (x ≤ 15)
/-- What Codes answers. -/
def codesV (X : List Int) : Except Int (List Nat) := if 320 < X.length then .error 1 else if X.all inR then (if isTree (X.map Int.toNat) then .ok (codes (X.map Int.toNat)) else .error 3) else .error 1

/-- Room for numbers that was made just now. -/
theorem arr_made {w' : World} {B g n : Nat} (h : w'.ownsRow B 3 1 (.slice (some ⟨g, 0, none⟩) n n) n (madeCells (Value.int .i64 0).cells (n * 1)).toList) : Arr w' g n (fun _ => 0) 3 := by
  obtain ⟨h0, h1 | ⟨g', cap, cur, he, hb, hh, hn, hc, hs, ht⟩⟩ := h
  · obtain ⟨h1, -⟩ := h1
    cases h1
  · injection he with e1 e2 e3
    injection e1 with e1
    injection e1 with e1
    subst e1 e3
    unfold Arr Blk
    rw [hh]
    congr 2
    apply Array.ext'
    rw [List.take_of_length_le (by rw [Array.length_toList]; omega)] at ht
    rw [ht]
    unfold numCells madeCells
    rw [Nat.mul_one]
    apply List.ext_getElem
    · simp
    · intro i hi hj
      simp [Value.cells, Nat.mod_one]
theorem info_int : (Try.prog.info? 3).map (fun i => (i.zero, i.size, i.bytes)) = some (some (.int .i64 0), 1, 8) := by kernel_rfl

/-- How many of each length there are so far. -/
theorem cnt_step (L : List Nat) (j : Nat) (h : j < L.length) : (fun n => if n = L[j] then (cnt (L.take j) L[j] : Int) + 1 else (cnt (L.take j) n : Int)) = fun n => (cnt (L.take (j + 1)) n : Int) := by
  funext n
  rw [cnt_take_succ L j h]
  by_cases e : n = L[j]
  · subst e; rw [if_pos rfl, if_pos rfl]; rfl
  · rw [if_neg e, if_neg (Ne.symm e)]; rfl

/-- The next code of each length, and the codes that are known. -/
def nxt (L : List Nat) (j n : Nat) : Int := if n = 0 then 0 else (fst L n + cnt (L.take j) n : Nat)
def cds (L : List Nat) (j i : Nat) : Int := if i < j then (code L i : Nat) else 0
theorem nxt_start (L : List Nat) (n : Nat) : ((fst L n : Nat) : Int) = nxt L 0 n := by
  unfold nxt
  by_cases h : n = 0
  · subst h; rfl
  · rw [if_neg h]; simp [cnt]
theorem nxt_skip (L : List Nat) (j : Nat) (h : j < L.length) (h0 : L[j] = 0) : nxt L j = nxt L (j + 1) := by
  funext n
  unfold nxt
  by_cases e : n = 0
  · rw [if_pos e, if_pos e]
  · rw [if_neg e, if_neg e, cnt_take_succ L j h, h0, if_neg (Ne.symm e)]; rfl
theorem nxt_step (L : List Nat) (j : Nat) (h : j < L.length) (h0 : L[j] ≠ 0) : (fun n => if n = L[j] then nxt L j L[j] + 1 else nxt L j n) = nxt L (j + 1) := by
  funext n
  unfold nxt
  by_cases e : n = 0
  · subst e; rw [if_neg (Ne.symm h0), if_pos rfl, if_pos rfl]
  · by_cases e2 : n = L[j]
    · subst e2; rw [if_pos rfl, if_neg h0, if_neg h0, cnt_take_succ L j h, if_pos rfl]; omega
    · rw [if_neg e2, if_neg e, if_neg e, cnt_take_succ L j h, if_neg (Ne.symm e2)]; rfl
theorem cds_skip (L : List Nat) (j : Nat) (h : j < L.length) (h0 : L[j] = 0) : cds L j = cds L (j + 1) := by
  funext i
  unfold cds
  by_cases e : i < j
  · rw [if_pos e, if_pos (by omega)]
  · rw [if_neg e]
    by_cases e2 : i = j
    · subst e2
      have hg : L.getD i 0 = L[i] := by simp [List.getD, h]
      rw [if_pos (by omega)]; unfold code; rw [hg, if_pos h0]; rfl
    · rw [if_neg (by omega)]
theorem cds_step (L : List Nat) (j : Nat) (h : j < L.length) (h0 : L[j] ≠ 0) : (fun i => if i = j then nxt L j L[j] else cds L j i) = cds L (j + 1) := by
  funext i
  unfold cds
  by_cases e2 : i = j
  · subst e2
    have hg : L.getD i 0 = L[i] := by simp [List.getD, h]
    rw [if_pos rfl, if_pos (by omega)]; unfold code nxt; rw [hg, if_neg h0, if_neg h0]
  · rw [if_neg e2]
    by_cases e : i < j
    · rw [if_pos e, if_pos (by omega)]
    · rw [if_neg e, if_neg (by omega)]
theorem codes_get (L : List Nat) (i : Nat) (h : i < L.length) : (codes L).getD i 0 = code L i := by
  unfold codes; simp [List.getD, h]
theorem nxt_le (L : List Nat) (j n : Nat) (hL : L.length ≤ 65536) (hn : n ≤ 15) : 0 ≤ nxt L j n ∧ nxt L j n ≤ 17179869184 := by
  unfold nxt
  have h1 := cnt_take_le L j n
  have h2 := cnt_le L n
  split
  · omega
  · have h3 := fst_beh L n (by omega)
    have h4 := beh_lt L (n - 1) hL (by omega)
    omega

/-- What the call of Codes leaves. -/
def CodesA (X : List Int) (w : World) (e : Ending) (w' : World) : Prop := Kept w w' ∧ match codesV X with
  | .error k => e = .returned (.tuple #[.slice none 0 0, .int .i64 k])
  | .ok l => ∃ g, e = .returned (.tuple #[.slice (some ⟨g, 0, none⟩) X.length X.length, .int .i64 0]) ∧ w.heap.size ≤ g ∧ Arr w' g X.length (fun i => ((l.getD i 0 : Nat) : Int)) 3 ∧ l.length = X.length
theorem codesA_no {X : List Int} {w w' : World} {k : Int} (hV : codesV X = .error k) (hk : Kept w w') : CodesA X w (.returned (.tuple #[.slice none 0 0, .int .i64 k])) w' := by
  unfold CodesA; rw [hV]; exact ⟨hk, rfl⟩

set_option maxRecDepth 100000 in
theorem Codes_any (X : List Int) (p : Option Addr) (c : Nat) (w : World) (h : IntsR w p X) (hl : X.length ≤ 9223372036854775807) :
    Calls Try.prog 34 #[.slice p X.length c] w (CodesA X w) := by
  have HX := Lib.hid h
  clear h
  by_cases hlen : 320 < X.length
  · have hV : codesV X = .error 1 := if_pos hlen
    have h1 : (320 : Int) < X.length := by omega
    have HV := Lib.hid hV
    clear hV
    go_enter Try.func34, Try.ntmps34
    go_wp2_with fail
    go_ret2
    exact codesA_no HV.out (Kept.refl w)
  have h1 : ¬ (320 : Int) < X.length := by omega
  have HV := Lib.hid (show codesV X = if X.all inR then (if isTree (X.map Int.toNat) then .ok (codes (X.map Int.toNat)) else .error 3) else .error 1 from if_neg hlen)
  have hN : (X.map Int.toNat).length = X.length := by simp
  obtain ⟨L, hL⟩ : ∃ L, L = X.map Int.toNat := ⟨_, rfl⟩
  rw [← hL] at HV hN
  have HLX := Lib.hid hL
  clear hL
  go_enter Try.func34, Try.ntmps34
  go_wp2_with fail
  go_loopg [17] (X.length + 1) (fun m v wr => ∃ j : Nat, m = X.length + 1 - j ∧ j ≤ X.length ∧ v = .int .i64 j ∧ Hid ((X.take j).all inR = true) ∧ Arr wr w.heap.size 16 (fun n => (cnt (L.take j) n : Int)) 83 ∧ Kept w wr)
  case atStart =>
    refine ⟨0, rfl, Nat.zero_le _, rfl, Lib.hid rfl, ?_, (Kept.refl w).alloc _ _⟩
    refine Arr.fn (f := fun _ => 0) ?_ _ fun i hi => rfl
    exact Blk.fresh w _ _
  case round =>
    obtain ⟨j, hm, hj, rfl, HR, hc, hk⟩ := hrel
    have HC := Lib.hid hc
    have HK := Lib.hid hk
    clear hc hk
    by_cases hlt : j < X.length
    · obtain ⟨kb, o, hp, hkb, hc⟩ := (HX.out.kept HK.out) j hlt
      subst hp
      have HA := Lib.hid (show (X.take (j + 1)).all inR = ((X.take j).all inR && inR X[j]) by rw [List.take_succ_eq_append_getElem hlt, List.all_append]; simp)
      have HM := Lib.hid (show ∀ h : j < L.length, L[j] = X[j].toNat by rw [HLX.out]; intro h; simp)
      obtain ⟨x, hx⟩ : ∃ x, x = X[j] := ⟨_, rfl⟩
      have HXJ := Lib.hid hx
      rw [← hx] at hc HA HM
      clear hx
      by_cases hr : inR x = true
      · have hr2 := hr
        unfold inR at hr2
        rw [Bool.and_eq_true, decide_eq_true_eq, decide_eq_true_eq] at hr2
        obtain ⟨m, rfl⟩ : ∃ m : Nat, x = (m : Int) := ⟨x.toNat, by omega⟩
        have h15 : m ≤ 15 := by omega
        have HR' := Lib.hid hr
        have HM' := Lib.hid (show L[j] = m from HM.out (by omega))
        clear hr hr2
        have t0 : ¬ (m : Int) < 0 := by omega
        have t1 : ¬ (15 : Int) < m := by omega
        have c1 := HC.out.cell m (by omega)
        have c2 := HC.out.free
        have c3 := cnt_le (L.take j) m
        have c4 : (L.take j).length ≤ 65536 := by rw [List.length_take]; omega
        go_wp2_with fail
        go_roundg (X.length + 1 - (j + 1))
        case measure => omega
        case rel =>
          refine ⟨j + 1, rfl, by omega, by go_num, Lib.hid (by rw [HA.out, HR.out, HR'.out]; rfl), ?_, HK.out.set (Nat.le_refl _) _⟩
          rw [← cnt_step L j (by omega), HM'.out]
          exact HC.out.set m _
      · have hr := Bool.eq_false_iff.2 hr
        have HV1 := Lib.hid (show codesV X = .error 1 by
          rw [HV.out, if_neg]
          intro h
          have : (X.take (j + 1)).all inR = true := List.all_eq_true.2 fun y hy => List.all_eq_true.1 h y (List.mem_of_mem_take hy)
          rw [HA.out, hr, Bool.and_false] at this; cases this)
        by_cases hneg : x < 0
        · go_wp2_with fail
          go_ret2
          exact codesA_no HV1.out HK.out
        · have hbig : 15 < x := by
            unfold inR at hr
            rw [Bool.and_eq_false_iff, decide_eq_false_iff_not, decide_eq_false_iff_not] at hr; omega
          go_wp2_with fail
          go_ret2
          exact codesA_no HV1.out HK.out
    · obtain rfl : j = X.length := by omega
      have HALL := Lib.hid (show X.all inR = true by have := HR.out; rwa [List.take_length] at this)
      have HCC := Lib.hid (show Arr wr w.heap.size 16 (fun n => (cnt L n : Int)) 83 by
        have := HC.out; rwa [show L.take X.length = L by rw [← hN, List.take_length]] at this)
      have FI := Lib.hid (fun w' (k : Kept wr w') => by have z := firsts_any L w.heap.size w' (HCC.out.kept k) (by omega); rw [numCells16] at z; exact z)
      have hz := Below.size HK.out
      have hz2 := HCC.out.lt
      clear HC HR
      go_upto_region 11 with fail
      go_cut [7, 8] (fun g e wc => ∃ k : Nat, g = .pointer (some ⟨k, 0, none⟩) ∧ e = .bool (whole L) ∧ w.heap.size < k ∧ Arr wc k 16 (fun i => (fst L i : Int)) 83 ∧ Kept wr wc)
      case first =>
        go_wp2_with fail
        (with_reducible refine (FI.out _ (Kept.refl _)).mono ?_)
        rintro e w2 ⟨rfl, k2⟩
        have K2 := Lib.hid k2
        have hz3 := Below.size k2
        clear k2 HCC HK FI
        go_wp2_with fail
        go_meet
        exact ⟨w2.heap.size, rfl, rfl, by omega, Blk.fresh w2 (numCells 16 fun i => (fst L i : Int)) 83, K2.out.allocO _⟩
      case rest =>
        obtain ⟨k, rfl, rfl, hk, hn, hq⟩ := hcut
        have HNX := Lib.hid hn
        have HQ := Lib.hid hq
        have HC2 := Lib.hid (HCC.out.kept hq)
        have K2 := Lib.hid (HK.out.trans hq)
        clear hn hq HCC HK FI
        have ML := Lib.hid (fun w' (q : Kept wc w') => mayLack_any L w.heap.size w' (HC2.out.kept q) (by omega))
        rw [hN] at ML
        go_upto_region 12 with fail
        go_cut [8, 44] (fun b v wd => b = .bool (whole L) ∧ v = .bool (!(isTree L)) ∧ Kept wc wd)
        case first =>
          cases hw : whole L
          · have HT := Lib.hid (show (!(isTree L)) = !(lack L) by unfold isTree; rw [hw, Bool.false_or])
            obtain ⟨y, hy⟩ : ∃ y, y = lack L := ⟨_, rfl⟩
            rw [← hy] at ML HT
            have HW := Lib.hid hw
            clear hw hy
            cases y
            · go_wp2_with fail
              (with_reducible refine (ML.out _ (Kept.refl _)).mono ?_)
              rintro e w3 ⟨rfl, k3⟩
              have K3 := Lib.hid k3
              clear k3
              go_wp2_with fail
              go_meet
              exact ⟨by rw [HW.out], by rw [HT.out]; rfl, K3.out⟩
            · go_wp2_with fail
              (with_reducible refine (ML.out _ (Kept.refl _)).mono ?_)
              rintro e w3 ⟨rfl, k3⟩
              have K3 := Lib.hid k3
              clear k3
              go_wp2_with fail
              go_meet
              exact ⟨by rw [HW.out], by rw [HT.out]; rfl, K3.out⟩
          · have HT := Lib.hid (show (!(isTree L)) = false by unfold isTree; rw [hw, Bool.true_or]; rfl)
            have HW := Lib.hid hw
            clear hw
            go_wp2_with fail
            go_meet
            exact ⟨by rw [HW.out], by rw [HT.out], Kept.refl _⟩
        case rest =>
          obtain ⟨rfl, rfl, hk3⟩ := hcut
          have HNX3 := Lib.hid (HNX.out.kept hk3)
          have K3 := Lib.hid (K2.out.trans hk3)
          clear hk3 ML HNX K2
          cases ht : isTree L
          · have HV1 := Lib.hid (show codesV X = .error 3 by
              rw [HV.out, if_pos HALL.out, ht]; rfl)
            clear ht
            go_wp2_with fail
            go_ret2
            exact codesA_no HV1.out K3.out
          · have HV1 := Lib.hid (show codesV X = .ok (codes L) by
              rw [HV.out, if_pos HALL.out, ht]; rfl)
            clear ht
            obtain ⟨i0, hi, hz0, hz1, hz2⟩ := info_parts info_int
            go_wp2_with (at_make; refine wpList_make_full _ rfl _ _ 55 rfl w.heap.size 3 i0 (.int .i64 0) 1 Try.underlying55 hi hz0 hz1 .i64 .i64 _ _ X.length rfl rfl rfl rfl (by rw [hz2]; omega) (by unfold maxLen; omega) (Below.size K3.out) ?_; intro w4 hown hgrow)
            have G4 := Lib.hid (arr_made hown)
            have HN4 := Lib.hid (HNX3.out.gb hgrow (by simp))
            have K4 := Lib.hid (show Kept w w4 from Below.grown K3.out hgrow (Below.size K3.out) (fun k h => by cases h))
            have hkk := HNX3.out.lt
            have hkw := Below.size K3.out
            clear hown hgrow hi hz0 hz1 hz2 HNX3 K3
            obtain ⟨q, hq⟩ : ∃ q, q = wc.heap.size := ⟨_, rfl⟩
            rw [← hq] at G4 hkk hkw ⊢
            clear hq
            go_loopg [50] (X.length + 1) (fun m v wr => ∃ j : Nat, m = X.length + 1 - j ∧ j ≤ X.length ∧ v = .int .i64 j ∧ Arr wr q X.length (cds L j) 3 ∧ Arr wr k 16 (nxt L j) 83 ∧ Kept w wr)
            case atStart =>
              exact ⟨0, rfl, Nat.zero_le _, rfl, G4.out.fn _ fun i hi => (if_neg (Nat.not_lt_zero _)).symm, HN4.out.fn _ fun n hn => nxt_start L n, K4.out⟩
            case round =>
              obtain ⟨j, hm, hj, rfl, hg, hn, hk⟩ := hrel
              have HG := Lib.hid hg
              have HN := Lib.hid hn
              have HK := Lib.hid hk
              clear hg hn hk
              by_cases hlt : j < X.length
              · obtain ⟨kb, o, hp, hkb, hc⟩ := (HX.out.kept HK.out) j hlt
                subst hp
                have hin : inR X[j] = true := List.all_eq_true.1 HALL.out _ (List.getElem_mem hlt)
                have HM := Lib.hid (show ∀ h : j < L.length, L[j] = X[j].toNat by rw [HLX.out]; intro h; simp)
                obtain ⟨x, hx⟩ : ∃ x, x = X[j] := ⟨_, rfl⟩
                rw [← hx] at hc HM hin
                clear hx
                unfold inR at hin
                rw [Bool.and_eq_true, decide_eq_true_eq, decide_eq_true_eq] at hin
                obtain ⟨m, rfl⟩ : ∃ m : Nat, x = (m : Int) := ⟨x.toNat, by omega⟩
                have h15 : m ≤ 15 := by omega
                have HM' := Lib.hid (show L[j] = m from HM.out (by omega))
                clear HM hin
                by_cases hm0 : m = 0
                · subst hm0
                  go_wp2_with fail
                  go_roundg (X.length + 1 - (j + 1))
                  case measure => omega
                  case rel => exact ⟨j + 1, rfl, by omega, by go_num, by rw [← cds_skip L j (by omega) HM'.out]; exact HG.out, by rw [← nxt_skip L j (by omega) HM'.out]; exact HN.out, HK.out⟩
                · have t0 : (0 : Int) < (m : Int) := by omega
                  have HM0 := Lib.hid hm0
                  clear hm0
                  have d0 := HG.out.cell j hlt
                  have d1 := HG.out.free
                  have d2 := HN.out.cell m (by omega)
                  have d3 := HN.out.free
                  obtain ⟨y1, y2⟩ := nxt_le L j m (by omega) h15
                  obtain ⟨y, hy⟩ : ∃ y, y = nxt L j m := ⟨_, rfl⟩
                  rw [← hy] at d2 y1 y2
                  have HY := Lib.hid hy
                  have HG1 := Lib.hid (HG.out.set j y)
                  have HN1 := Lib.hid (HN.out.other (k := q) (o := j) (by omega) (.int .i64 y))
                  have d4 := HN1.out.cell m (by omega)
                  rw [← hy] at d4
                  have d5 := HN1.out.free
                  clear hy
                  go_wp2_with fail
                  go_roundg (X.length + 1 - (j + 1))
                  case measure => omega
                  case rel =>
                    refine ⟨j + 1, rfl, by omega, by go_num, ?_, ?_, (HK.out.set (by omega) _).set (by omega) _⟩
                    · rw [← cds_step L j (by omega) (by rw [HM'.out]; exact HM0.out), HM'.out, ← HY.out]
                      exact HG1.out.other (by omega) _
                    · rw [← nxt_step L j (by omega) (by rw [HM'.out]; exact HM0.out), HM'.out, ← HY.out]
                      exact HN1.out.set m _
              · obtain rfl : j = X.length := by omega
                go_wp2_with fail
                go_ret2
                unfold CodesA
                rw [HV1.out]
                refine ⟨HK.out, q, rfl, by omega, HG.out.fn _ fun i hi => ?_, by unfold codes; simp [hN]⟩
                unfold cds
                rw [if_pos hi, codes_get L i (by omega)]

end Go.Proofs.Ytpplboihlndfpaa
