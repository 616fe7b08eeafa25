/-
  A section of a table's text.
-/
import Derived.Test.YtnmehngedljgoaaGreatDoorXrfRead2
import Derived.Test.YtnmehngedljgoaaGreatDoorXrfConcat
import Derived.OwnWalk
namespace Go.Proofs.YtnmehngedljgoaaGreatDoor
open Go.RowKit Rx
set_option linter.unusedSimpArgs false
set_option linter.unusedVariables false

theorem zeros_made (n : Nat) : (madeCells (Value.agg #[.int .i64 0, .int .i64 0, .int .i64 0, .bool false]).cells (n * 4)).toList = entC (List.replicate n zeroE) := by
  apply List.ext_getElem?
  intro t
  have hl : (entC (List.replicate n zeroE)).length = n * 4 := by rw [entC_len, List.length_replicate]; omega
  by_cases ht : t < n * 4
  · obtain ⟨i, q, hq, rfl⟩ : ∃ i q, q < 4 ∧ t = i * 4 + q := ⟨t / 4, t % 4, Nat.mod_lt _ (by decide), by omega⟩
    rw [entC_get _ i (by rw [List.length_replicate]; omega) q hq, List.getElem_replicate]
    rw [Array.getElem?_toList, Array.getElem?_eq_getElem (by rw [size_madeCells]; exact ht)]
    have e : (madeCells (Value.agg #[.int .i64 0, .int .i64 0, .int .i64 0, .bool false]).cells (n * 4))[i * 4 + q]'(by rw [size_madeCells]; exact ht) = #[Value.int .i64 0, .int .i64 0, .int .i64 0, .bool false][(i * 4 + q) % 4]! := by
      simp [madeCells, Value.cells]
    rw [e, show (i * 4 + q) % 4 = q by omega]
    match q, hq with
    | 0, _ => rfl
    | 1, _ => rfl
    | 2, _ => rfl
    | 3, _ => rfl
  · rw [List.getElem?_eq_none (by rw [Array.length_toList, size_madeCells]; omega), List.getElem?_eq_none (by omega)]
theorem entC_set : ∀ (l : List Xent) (j : Nat) (e : Xent) (h : j < l.length) (R : List Value), ((((entC l ++ R).set (j * 4) (.int .i64 e.n)).set (j * 4 + 1) (.int .i64 e.off)).set (j * 4 + 2) (.int .i64 e.gen)).set (j * 4 + 3) (.bool e.used) = entC (l.set j e) ++ R
  | [], j, e, h, R => by simp at h
  | x :: l, 0, e, h, R => by
    unfold entC
    simp [entc]
  | x :: l, j + 1, e, h, R => by
    have ih := entC_set l j e (by simpa using h) R
    have e1 : entC (x :: l) ++ R = .int .i64 x.n :: .int .i64 x.off :: .int .i64 x.gen :: .bool x.used :: (entC l ++ R) := by unfold entC; simp [entc]
    have e2 : entC ((x :: l).set (j + 1) e) ++ R = .int .i64 x.n :: .int .i64 x.off :: .int .i64 x.gen :: .bool x.used :: (entC (l.set j e) ++ R) := by unfold entC; simp [entc]
    rw [e1, e2, ← ih]
    rw [show (j + 1) * 4 = j * 4 + 1 + 1 + 1 + 1 by omega]
    simp only [List.set_cons_succ]
theorem Ents.put {T : TypeId} {w : World} {B g n c : Nat} {l : List Xent} (h : Ents T w B (.slice (some ⟨g, 0, none⟩) n c) l) {j : Nat} (hj : j < l.length) (e : Xent) :
    Ents T ((((w.setCell ⟨g, j * 4, none⟩ (.int .i64 e.n)).setCell ⟨g, j * 4 + 1, none⟩ (.int .i64 e.off)).setCell ⟨g, j * 4 + 2, none⟩ (.int .i64 e.gen)).setCell ⟨g, j * 4 + 3, none⟩ (.bool e.used)) B (.slice (some ⟨g, 0, none⟩) n c) (l.set j e) := by
  rcases h.2 with ⟨he, _⟩ | ⟨g', cap, cur, he, hb, hh, hn, hc, hs, ht⟩
  · cases he
  injection he with e1 e2 e3
  injection e1 with e1
  injection e1 with e1
  subst e1 e2 e3
  have hcl := entC_len l
  have hb4 := (((Blk.set (show Blk w g cur T from hh) (j * 4) (.int .i64 e.n)).set (j * 4 + 1) (.int .i64 e.off)).set (j * 4 + 2) (.int .i64 e.gen)).set (j * 4 + 3) (.bool e.used)
  have key : ((((cur.setIfInBounds (j * 4) (.int .i64 e.n)).setIfInBounds (j * 4 + 1) (.int .i64 e.off)).setIfInBounds (j * 4 + 2) (.int .i64 e.gen)).setIfInBounds (j * 4 + 3) (.bool e.used)).toList = entC (l.set j e) ++ cur.toList.drop (l.length * 4) := by
    obtain ⟨R, hR⟩ : ∃ R, R = cur.toList.drop (l.length * 4) := ⟨_, rfl⟩
    have h1 : cur.toList = entC l ++ R := by rw [← ht, hR, List.take_append_drop]
    simp only [Array.toList_setIfInBounds]
    rw [← hR, h1]
    exact entC_set l j e hj R
  have hcl2 := entC_len (l.set j e)
  rw [List.length_set] at hcl2
  unfold Ents
  rw [List.length_set]
  refine ⟨by rw [hcl2]; omega, .inr ⟨g, c, _, rfl, hb, hb4, hn, hc, by simpa using hs, ?_⟩⟩
  rw [key, List.take_append_of_le_length (by omega), List.take_of_length_le (by omega)]

theorem Ents.at {T : TypeId} {w : World} {B g n c : Nat} {l : List Xent} (h : Ents T w B (.slice (some ⟨g, 0, none⟩) n c) l) {j : Nat} (hj : j < l.length) :
    (∃ v, w.cell? ⟨g, j * 4, none⟩ = some v) ∧ (∃ v, w.cell? ⟨g, j * 4 + 1, none⟩ = some v) ∧ (∃ v, w.cell? ⟨g, j * 4 + 2, none⟩ = some v) ∧ (∃ v, w.cell? ⟨g, j * 4 + 3, none⟩ = some v) ∧ (∀ o, w.frozen? ⟨g, o, none⟩ = false) := by
  obtain ⟨k, o, hp, _, c0, c1, c2, c3⟩ := h.entR j hj
  injection hp with hp
  injection hp with e1 e2
  subst e1 e2
  rw [Nat.zero_add] at c0 c1 c2 c3
  refine ⟨⟨_, c0⟩, ⟨_, c1⟩, ⟨_, c2⟩, ⟨_, c3⟩, fun o => ?_⟩
  rcases h.2 with ⟨he, _⟩ | ⟨g', cap, cur, he, hb, hh, _⟩
  · cases he
  · injection he with e1
    injection e1 with e1
    injection e1 with e1
    subst e1
    simp [World.frozen?, hh]
theorem set_next (done : List Xent) (n : Nat) (e : Xent) (h : done.length < n) : (done ++ List.replicate (n - done.length) zeroE).set done.length e = (done ++ [e]) ++ List.replicate (n - (done.length + 1)) zeroE := by
  obtain ⟨m, hm⟩ : ∃ m, n - done.length = m + 1 := ⟨n - done.length - 1, by omega⟩
  rw [hm, show n - (done.length + 1) = m by omega, List.replicate_succ, List.set_append_right _ _ (Nat.le_refl _), Nat.sub_self, List.set_cons_zero]
  simp

set_option maxRecDepth 100000 in
set_option maxHeartbeats 8000000 in
theorem section_any (s : ByteArray) (first : Int) (a : Nat) (rb : Nat) (w : World) (hs : s.size ≤ 4294967295) (h0 : 0 ≤ first) (h1 : first ≤ 2147483) (hm : HasMax w) (hr : Rdr s a rb w) (X : Int × List Xent × Nat) (hX : X = secX s.data.toList first a) :
    Calls Tryz.prog 76 #[.pointer (some ⟨rb, 0, none⟩), .int .i64 first] w fun e w' =>
      ∃ v, e = .returned (.tuple #[v, .int .i64 X.1]) ∧ Ents 47 w' w.heap.size v X.2.1 ∧ (∃ a' : Int, (X.1 = 0 → a' = X.2.2) ∧ Rdr s a' rb w') ∧ w.grownBy w' (some rb) := by
  have hrb := hr.lt
  obtain ⟨i0, hi, hz0, hz1, hz2⟩ := info_parts info_xent
  obtain ⟨P, hP⟩ : ∃ P, P = wholeX s.data.toList a := ⟨_, rfl⟩
  have CP := Lib.hid (whole_any s a rb w hs hm hr P hP)
  have HX := Lib.hid (show X = if P.1 = 0 then (if 0 < P.2.1 ∧ 4096 < first + P.2.1 then (6, [], 0) else secG s.data.toList P.2.1.toNat first P.2.2 []) else (P.1, [], 0) by rw [hX, secX, ← hP])
  have HPB := Lib.hid (fun h : P.1 = 0 => show 0 ≤ P.2.1 ∧ P.2.1 ≤ 2147483 from by rw [hP] at h ⊢; exact (wholeX_ok h).2.2.2)
  have HM := Lib.hid hm
  have HR := Lib.hid hr
  clear hX hP hm hr
  obtain ⟨pe, pv, pt⟩ := P
  simp only [] at CP HX HPB
  by_cases he : pe = 0
  · subst he
    obtain ⟨p0, p1⟩ := HPB.out rfl
    by_cases hbig : 0 < pv ∧ 4096 < first + pv
    · have HV := Lib.hid (show X = (6, [], 0) by rw [HX.out, if_pos rfl, if_pos hbig])
      obtain ⟨b1, b2⟩ := hbig
      clear HX HPB
      have i1 : IntKind.i64.wrap (first + pv) = first + pv := IntWalk.i64_in _ (by omega)
      go_enter Tryz.func76, Tryz.ntmps76
      go_wp2_with (go_at_call 42; refine CP.out.mono ?_; rintro e w1 ⟨rfl, ⟨a1, ha1, hr1⟩, hg1⟩; have R1 := Lib.hid hr1; have G1 := Lib.hid hg1; clear hr1 hg1 ha1)
      go_ret2
      exact ⟨_, by rw [HV.out]; first | done | rfl, by rw [HV.out]; exact World.ownsRow_nil _ _ _ _, ⟨a1, fun h => by rw [HV.out] at h; exact absurd h (by decide), R1.out⟩, G1.out⟩
    · have hn4 : pv = 0 ∨ first + pv ≤ 4096 := by omega
      obtain ⟨n, rfl⟩ : ∃ n : Nat, pv = (n : Int) := ⟨pv.toNat, by omega⟩
      have HV := Lib.hid (show X = secG s.data.toList n first pt [] by rw [HX.out, if_pos rfl, if_neg hbig, Int.toNat_natCast])
      have hn : n ≤ 4096 := by omega
      have HS := Lib.hid (show True from trivial)
      have hbigc : ¬ 0 < (n : Int) ∨ (0 < (n : Int) ∧ ¬ 4096 < first + (n : Int)) := by omega
      have i1 : IntKind.i64.wrap (first + (n : Int)) = first + (n : Int) := IntWalk.i64_in _ (by omega)
      clear HX HPB hbig HS
      have HH := Lib.hid (show rb < w.heap.size from hrb)
      rcases hbigc with b1 | ⟨b1, b2⟩
      all_goals
        go_enter Tryz.func76, Tryz.ntmps76
        go_wp2_with (first
          | (go_at_call 42; refine CP.out.mono ?_; rintro e w1 ⟨rfl, ⟨a1, ha1, hr1⟩, hg1⟩; obtain rfl := ha1 (by trivial); have R1 := Lib.hid hr1; have G1 := Lib.hid hg1; clear hr1 hg1 ha1)
          | (at_make; refine wpList_make_full _ rfl _ _ 37 rfl w1.heap.size 47 i0 _ 4 Tryz.underlying37 hi hz0 hz1 .i64 .i64 _ _ n rfl rfl rfl rfl (by rw [hz2]; omega) (by unfold maxLen; omega) (Nat.le_refl _) ?_; intro w4 hown hgrow; have O4 := Lib.hid (show Ents 47 w4 w1.heap.size (.slice (some ⟨w1.heap.size, 0, none⟩) n n) (List.replicate n zeroE) from (by unfold Ents; rw [List.length_replicate, ← zeros_made]; exact hown)); have GG := Lib.hid hgrow; clear hown hgrow))
        have hw1 := G1.out.size
        have hw4 := GG.out.size
        have G4 := Lib.hid (show w.grownBy w4 (some rb) from gb_trans G1.out ⟨GG.out.os, GG.out.tape, GG.out.output, GG.out.size, fun k hk _ => GG.out.block k hk (by simp)⟩)
        have R4 := Lib.hid (show Rdr s pt rb w4 from R1.out.gb GG.out (by simp))
        obtain ⟨g, hg⟩ : ∃ g, g = w1.heap.size := ⟨_, rfl⟩
        rw [← hg] at O4 hw1 hw4 ⊢
        have ng : rb ≠ g := by have := HH.out; omega
        clear R1 G1 GG hg hi hz0 hz1 hz2
        go_loopg [7, 9, 30] (n + 1) (fun x ev iv y wr => ∃ (j ap : Nat) (done : List Xent) (zi : Value), zi = iv ∧ ev = .int .i64 0 ∧ x = n + 1 - j ∧ j ≤ n ∧ y = .int .i64 j ∧ done.length = j ∧ Hid (secG s.data.toList (n - j) (first + j) ap done = secG s.data.toList n first pt []) ∧ Rdr s ap rb wr ∧ Ents 47 wr g (.slice (some ⟨g, 0, none⟩) n n) (done ++ List.replicate (n - j) zeroE) ∧ w.grownBy wr (some rb))
        case atStart => exact ⟨0, pt, [], _, rfl, rfl, rfl, Nat.zero_le _, rfl, rfl, Lib.hid (by simp), R4.out, by simpa using O4.out, G4.out⟩
        case round =>
          obtain ⟨j, ap, done, zi, rfl, rfl, hx, hj, rfl, hdl, HS2, hr, ho, hgr⟩ := hrel
          have RR := Lib.hid hr
          have OO := Lib.hid ho
          have GR := Lib.hid hgr
          have MM := Lib.hid (HR.out.max HM.out hgr)
          have hrz := hr.lt
          clear hr ho hgr
          by_cases hlt : j < n
          · (try (exfalso; omega))
            all_goals
              have j1 : (j : Int) < (n : Int) := by omega
              have i2 : IntKind.i64.wrap (first + (j : Int)) = first + (j : Int) := IntWalk.i64_in _ (by omega)
              obtain ⟨Y, hY⟩ : ∃ Y, Y = entX s.data.toList ap (first + j) := ⟨_, rfl⟩
              have CE := Lib.hid (entry_any s ap (first + j) rb wr hs MM.out RR.out Y hY)
              have HST := Lib.hid (show secG s.data.toList (n - j) (first + j) ap done = if Y.1 = 0 then secG s.data.toList (n - (j + 1)) (first + ((j + 1 : Nat) : Int)) Y.2.2 (done ++ [Y.2.1]) else (Y.1, [], 0) by
                obtain ⟨m, hm⟩ : ∃ m, n - j = m + 1 := ⟨n - j - 1, by omega⟩
                rw [hm, secG, ← hY, show n - (j + 1) = m by omega, show first + ((j + 1 : Nat) : Int) = first + (j : Int) + 1 by omega])
              obtain ⟨ye, ⟨yn, yo, yg, yu⟩, yt⟩ := Y
              unfold xentV at CE
              simp only [] at CE HST
              clear hY
              by_cases hye : ye = 0
              · subst hye
                have HSN := Lib.hid (show secG s.data.toList (n - (j + 1)) (first + ((j + 1 : Nat) : Int)) yt (done ++ [⟨yn, yo, yg, yu⟩]) = secG s.data.toList n first pt [] by rw [← HS2.out, HST.out, if_pos rfl])
                clear HST HS2
                go_wp2_with (go_at_call 109; refine CE.out.mono ?_; rintro e w5 ⟨rfl, ⟨a5, ha5, hr5⟩, hg5⟩; obtain rfl := ha5 (by trivial); have R5 := Lib.hid hr5; have G5 := Lib.hid (gb_trans GR.out hg5); have O5 := Lib.hid (OO.out.gb hg5 (.inr (by simp [Value.ownBlock]; omega))); obtain ⟨⟨v0, x0⟩, ⟨v1, x1⟩, ⟨v2, x2⟩, ⟨v3, x3⟩, xf⟩ := O5.out.at (j := j) (by simp; omega); have gl := (O5.out.lt g rfl).2; clear hr5 hg5 ha5)
                have OP := Lib.hid (O5.out.put (j := j) (by simp; omega) ⟨yn, yo, yg, yu⟩)
                clear x0 x1 x2 x3
                go_roundg (n + 1 - (j + 1))
                case measure => omega
                case rel =>
                  refine ⟨j + 1, yt, done ++ [⟨yn, yo, yg, yu⟩], _, rfl, rfl, rfl, by omega, by go_num, by simp; omega, Lib.hid HSN.out, ?_, ?_, ?_⟩
                  · repeat (with_reducible first | exact R5.out | refine Rdr.other ?_ ng _)
                  · have h := OP.out
                    rw [← hdl, set_next done n _ (by omega), hdl] at h
                    exact h
                  · repeat (with_reducible first | exact G5.out | refine gb_fresh ?_ (by omega) _)
              · have HV2 := Lib.hid (show X = (ye, [], 0) by rw [HV.out, ← HS2.out, HST.out, if_neg hye])
                have hne : (ye != 0) = true := by simpa using hye
                have HE := Lib.hid hye
                clear hye HST HS2
                go_wp2_with (go_at_call 109; refine CE.out.mono ?_; rintro e w5 ⟨rfl, ⟨a5, ha5, hr5⟩, hg5⟩; have R5 := Lib.hid hr5; have G5 := Lib.hid (gb_trans GR.out hg5); have O5 := Lib.hid (OO.out.gb hg5 (.inr (by simp [Value.ownBlock]; omega))); obtain ⟨⟨v0, x0⟩, ⟨v1, x1⟩, ⟨v2, x2⟩, ⟨v3, x3⟩, xf⟩ := O5.out.at (j := j) (by simp; omega); have gl := (O5.out.lt g rfl).2; clear hr5 hg5 ha5)
                go_ret2
                refine ⟨_, by rw [HV2.out]; first | done | rfl, by rw [HV2.out]; exact World.ownsRow_nil _ _ _ _, ⟨a5, fun h => by rw [HV2.out] at h; exact absurd h HE.out, ?_⟩, ?_⟩
                · repeat (with_reducible first | exact R5.out | refine Rdr.other ?_ ng _)
                · repeat (with_reducible first | exact G5.out | refine gb_fresh ?_ (by omega) _)
          · obtain rfl : j = n := by omega
            have HV2 := Lib.hid (show X = (0, done, ap) by rw [HV.out, ← HS2.out, Nat.sub_self]; rfl)
            have OF := Lib.hid (show Ents 47 wr w.heap.size (.slice (some ⟨g, 0, none⟩) j j) done from by have h := OO.out; rw [Nat.sub_self, List.replicate_zero, List.append_nil] at h; exact h.base hw1)
            go_wp2_with fail
            go_ret2
            exact ⟨_, by rw [HV2.out]; first | done | rfl, by rw [HV2.out]; exact OF.out, ⟨(ap : Int), fun _ => by rw [HV2.out], RR.out⟩, GR.out⟩
  · have HV := Lib.hid (show X = (pe, [], 0) by rw [HX.out, if_neg he])
    have hne : (pe != 0) = true := by simpa using he
    have HE := Lib.hid he
    clear he HX HPB
    go_enter Tryz.func76, Tryz.ntmps76
    go_wp2_with (go_at_call 42; refine CP.out.mono ?_; rintro e w1 ⟨rfl, ⟨a1, ha1, hr1⟩, hg1⟩; have R1 := Lib.hid hr1; have G1 := Lib.hid hg1; clear hr1 hg1 ha1)
    go_ret2
    exact ⟨_, by rw [HV.out]; first | done | rfl, by rw [HV.out]; exact World.ownsRow_nil _ _ _ _, ⟨a1, fun h => by rw [HV.out] at h; exact absurd h HE.out, R1.out⟩, G1.out⟩

end Go.Proofs.YtnmehngedljgoaaGreatDoor
