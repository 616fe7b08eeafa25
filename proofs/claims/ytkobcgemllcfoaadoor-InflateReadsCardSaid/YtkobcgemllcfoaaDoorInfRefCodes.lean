/-
  The reference's codes and sum.
-/
import Derived.Test.YtkobcgemllcfoaaDoorInfArgs
import Derived.Test.YtkobcgemllcfoaaDoorInfTree
import Derived.Test.YtkobcgemllcfoaaDoorInfAdler
import Derived.Test.YtkobcgemllcfoaaDoorInfRefCodesMath
namespace Go.Proofs.YtkobcgemllcfoaaDoor
open Go.RowKit Ix
set_option linter.unusedSimpArgs false
set_option linter.unusedVariables false

theorem shl_pow {n : Nat} (h : n ≤ 15) : wrap64 (2 ^ n) = ((2 ^ n : Nat) : Int) := by
  have key : (List.range 16).all (fun n => wrap64 (2 ^ n) == ((2 ^ n : Nat) : Int)) = true := by kernel_rfl
  exact beq_iff_eq.1 (List.all_eq_true.1 key n (List.mem_range.2 (by omega)))

set_option maxRecDepth 100000 in
theorem refAdler_any (B : List UInt8) (p : Option Addr) (c : Nat) (w : World) (h : ByR w w.heap.size p B) (hB : B.length ≤ 1099511627776) :
    Calls Tryd.prog 29 #[.slice p B.length c] w fun e w' => e = .returned (.int .u32 (adler B)) ∧ Kept w w' := by
  have HB := Lib.hid h
  clear h
  go_enter Tryd.func29, Tryd.ntmps29
  go_wp2_with fail
  go_loopg [3, 4, 5] (B.length + 1) (fun m x y i wr => ∃ (j a s : Nat), m = B.length + 1 - j ∧ j ≤ B.length ∧ x = .int .i64 a ∧ y = .int .i64 s ∧ i = .int .i64 j ∧ a < 65521 ∧ s < 65521 ∧ Hid (adlerGo (B.drop j) a s = adlerGo B 1 0) ∧ w = wr)
  case atStart => exact ⟨0, 1, 0, rfl, Nat.zero_le _, rfl, rfl, rfl, by decide, by decide, Lib.hid rfl, rfl⟩
  case round =>
    obtain ⟨j, a, s, hm, hj, rfl, rfl, rfl, ha, hs, HE, rfl⟩ := hrel
    by_cases hlt : j < B.length
    · obtain ⟨kb, o, hp, hkb, hc⟩ := HB.out j hlt
      subst hp
      have HS := Lib.hid (adlerGo_step B j hlt a s)
      obtain ⟨v, hv⟩ : ∃ v, v = B[j].toNat := ⟨_, rfl⟩
      have hv2 : v < 256 := by rw [hv]; exact B[j].toNat_lt
      rw [← hv] at hc HS
      clear hv
      go_wp2_with fail
      go_roundg (B.length + 1 - (j + 1))
      case measure => omega
      case rel =>
        refine ⟨j + 1, (a + v) % 65521, (s + (a + v) % 65521) % 65521, rfl, by omega, ?_, ?_, by go_num, Nat.mod_lt _ (by decide), Nat.mod_lt _ (by decide), Lib.hid (by rw [← HS.out]; exact HE.out), rfl⟩
        · go_num
        · go_num
    · obtain rfl : j = B.length := by omega
      have HR := Lib.hid (show adler B = s * 65536 + a by
        have := HE.out
        rw [List.drop_eq_nil_of_le (Nat.le_refl _)] at this
        unfold adler; rw [← this]; rfl)
      go_wp2_with fail
      go_ret
      exact ⟨by rw [HR.out]; go_num, Kept.refl _⟩

set_option maxRecDepth 100000 in
set_option maxHeartbeats 4000000 in
theorem refCodes_any (X : List Int) (p : Option Addr) (c : Nat) (w : World) (h : IntsR w p X) (hl : X.length ≤ 9223372036854775807) :
    Calls Tryd.prog 27 #[.slice p X.length c] w (CodesA X w) := by
  have HX := Lib.hid h
  clear h
  by_cases hlen : 320 < X.length
  · have hV : codesV X = .error 1 := if_pos hlen
    have h1 : (320 : Int) < X.length := by omega
    have HV := Lib.hid hV
    clear hV
    go_enter Tryd.func27, Tryd.ntmps27
    go_wp2_with fail
    go_ret2
    exact codesA_no HV.out (Kept.refl w)
  have h1 : ¬ (320 : Int) < X.length := by omega
  have HV := Lib.hid (show codesV X = if X.all inR then (if isTree (X.map Int.toNat) then .ok (codes (X.map Int.toNat)) else .error 3) else .error 1 from if_neg hlen)
  have hN : (X.map Int.toNat).length = X.length := by simp
  obtain ⟨L, hL⟩ : ∃ L, L = X.map Int.toNat := ⟨_, rfl⟩
  rw [← hL] at HV hN
  have HLX := Lib.hid hL
  have HN := Lib.hid hN
  clear hL hN
  go_enter Tryd.func27, Tryd.ntmps27
  go_wp2_with fail
  go_loopg [4, 5] (X.length + 1) (fun m nv v wr => ∃ j u : Nat, m = X.length + 1 - j ∧ j ≤ X.length ∧ nv = .int .i64 u ∧ u ≤ j ∧ Hid (u = usedTo L j) ∧ v = .int .i64 j ∧ Hid ((X.take j).all inR = true) ∧ w = wr)
  case atStart => exact ⟨0, 0, rfl, Nat.zero_le _, rfl, Nat.le_refl _, Lib.hid rfl, rfl, Lib.hid rfl, rfl⟩
  case round =>
    obtain ⟨j, u, hm, hj, rfl, huj, HU, rfl, HR, rfl⟩ := hrel
    by_cases hlt : j < X.length
    · obtain ⟨kb, o, hp, hkb, hc⟩ := HX.out j hlt
      subst hp
      have HA := Lib.hid (show (X.take (j + 1)).all inR = ((X.take j).all inR && inR X[j]) by rw [List.take_succ_eq_append_getElem hlt, List.all_append]; simp)
      have HM := Lib.hid (show ∀ h : j < L.length, L[j] = X[j].toNat by rw [HLX.out]; intro h; simp)
      obtain ⟨x, hx⟩ : ∃ x, x = X[j] := ⟨_, rfl⟩
      rw [← hx] at hc HA HM
      clear hx
      by_cases hr : inR x = true
      · have hr2 := hr
        unfold inR at hr2
        rw [Bool.and_eq_true, decide_eq_true_eq, decide_eq_true_eq] at hr2
        obtain ⟨m, rfl⟩ : ∃ m : Nat, x = (m : Int) := ⟨x.toNat, by omega⟩
        have h15 : m ≤ 15 := by omega
        have HR' := Lib.hid hr
        have HM' := Lib.hid (show ∃ h : j < L.length, L[j] = m from ⟨by rw [HN.out]; exact hlt, HM.out _⟩)
        clear hr hr2 HM
        have t0 : ¬ (m : Int) < 0 := by omega
        have t1 : ¬ (15 : Int) < m := by omega
        by_cases hm0 : m = 0
        · have t2 : ¬ (0 : Int) < m := by omega
          have HM0 := Lib.hid hm0
          clear hm0
          go_wp2_with fail
          go_roundg (X.length + 1 - (j + 1))
          case measure => omega
          case rel =>
            obtain ⟨hjl, hLm⟩ := HM'.out
            exact ⟨j + 1, u, rfl, by omega, rfl, by omega, Lib.hid (by rw [HU.out, usedTo_skip L j hjl (by rw [hLm, HM0.out])]), by go_num, Lib.hid (by rw [HA.out, HR.out, HR'.out]; rfl), rfl⟩
        · have t2 : (0 : Int) < m := by omega
          have HM0 := Lib.hid hm0
          clear hm0
          go_wp2_with fail
          go_roundg (X.length + 1 - (j + 1))
          case measure => omega
          case rel =>
            obtain ⟨hjl, hLm⟩ := HM'.out
            exact ⟨j + 1, u + 1, rfl, by omega, by go_num, by omega, Lib.hid (by rw [HU.out, usedTo_step L j hjl (by rw [hLm]; exact HM0.out)]), by go_num, Lib.hid (by rw [HA.out, HR.out, HR'.out]; rfl), rfl⟩
      · have hr := Bool.eq_false_iff.2 hr
        have HV1 := Lib.hid (show codesV X = .error 1 by
          rw [HV.out, if_neg]
          intro h
          have : (X.take (j + 1)).all inR = true := List.all_eq_true.2 fun y hy => List.all_eq_true.1 h y (List.mem_of_mem_take hy)
          rw [HA.out, hr, Bool.and_false] at this; cases this)
        by_cases hneg : x < 0
        · go_wp2_with fail
          go_ret2
          exact codesA_no HV1.out (Kept.refl w)
        · have hbig : 15 < x := by
            unfold inR at hr
            rw [Bool.and_eq_false_iff, decide_eq_false_iff_not, decide_eq_false_iff_not] at hr; omega
          go_wp2_with fail
          go_ret2
          exact codesA_no HV1.out (Kept.refl w)
    · obtain rfl : j = X.length := by omega
      have HALL := Lib.hid (show X.all inR = true by have := HR.out; rwa [List.take_length] at this)
      have HUU := Lib.hid (show u = used L by rw [HU.out, ← HN.out, usedTo_end])
      have HV2 := Lib.hid (show codesV X = if isTree L then .ok (codes L) else .error 3 by rw [HV.out, if_pos HALL.out])
      have HAT := Lib.hid (show ∀ j, (hj : j < X.length) → ∃ (h : j < L.length), X[j] = ((L[j] : Nat) : Int) ∧ L[j] ≤ 15 from fun j hj => by
        have hin : inR X[j] = true := List.all_eq_true.1 HALL.out _ (List.getElem_mem hj)
        unfold inR at hin
        rw [Bool.and_eq_true, decide_eq_true_eq, decide_eq_true_eq] at hin
        have hjl : j < L.length := by rw [HN.out]; exact hj
        refine ⟨hjl, ?_⟩
        have : L[j] = X[j].toNat := by simp only [HLX.out, List.getElem_map]
        omega)
      have HBL := Lib.hid (fun n (hn : n ≤ 16) => beh_lt L n (by rw [HN.out]; omega) hn)
      clear HR HU HV
      obtain ⟨i0, hi, hz0, hz1, hz2⟩ := info_parts info_int
      go_wp2_with (at_make; refine wpList_make_full _ rfl _ _ 43 rfl w.heap.size 3 i0 (.int .i64 0) 1 Tryd.underlying43 hi hz0 hz1 .i64 .i64 _ _ X.length rfl rfl rfl rfl (by rw [hz2]; omega) (by unfold maxLen; omega) (Nat.le_refl _) ?_; intro w4 hown hgrow)
      have G4 := Lib.hid (arr_made hown)
      have K4 := Lib.hid (show Kept w w4 from Below.grown (Kept.refl w) hgrow (Nat.le_refl _) (fun k h => by cases h))
      obtain ⟨q, hq⟩ : ∃ q, q = w.heap.size := ⟨_, rfl⟩
      have HQ := Lib.hid (show w.heap.size ≤ q by omega)
      rw [← hq] at G4 ⊢
      clear hown hgrow hi hz0 hz1 hz2 hq
      go_loopg [7, 8, 9, 10] 17 (fun m nx ov kv iv wr => ∃ (k x : Nat) (o : Bool), m = 18 - k ∧ 1 ≤ k ∧ k ≤ 16 ∧ nx = .int .i64 x ∧ Hid (x = beh L (k - 1)) ∧ ov = .bool o ∧ kv = .int .i64 k ∧ Hid (used L = 1 → o = decide (0 < rSeen L k 0)) ∧ Arr wr q X.length (rOut L k 0) 3 ∧ Kept w wr)
      case atStart =>
        exact ⟨1, 0, false, rfl, Nat.le_refl _, by decide, rfl, Lib.hid rfl, rfl, rfl, Lib.hid (fun _ => by rw [rSeen_start]; rfl), G4.out.fn _ fun i hi => (rOut_start L i).symm, K4.out⟩
      case round =>
        obtain ⟨k, x, o, hm, h1k, hk16, rfl, HX0, rfl, rfl, HO, hg, hk⟩ := hrel
        have HG := Lib.hid hg
        have HK := Lib.hid hk
        clear hg hk
        by_cases hk15 : k ≤ 15
        · have hx1 : x ≤ 4294967296 := by rw [HX0.out]; exact HBL.out _ (by omega)
          have hkk : (k : Int) ≤ 15 := by omega
          go_wp2_with fail
          go_loopg [7, 8, 10] (X.length + 1) (fun m nx ov iv wr => ∃ (j y : Nat) (o : Bool), m = X.length + 1 - j ∧ j ≤ X.length ∧ nx = .int .i64 y ∧ y ≤ 4294967296 ∧ Hid (y = rNext L k j) ∧ ov = .bool o ∧ iv = .int .i64 j ∧ Hid (used L = 1 → o = decide (0 < rSeen L k j)) ∧ Arr wr q X.length (rOut L k j) 3 ∧ Kept w wr)
          case atStart =>
            refine ⟨0, 2 * x, o, rfl, Nat.zero_le _, ?_, ?_, Lib.hid ?_, rfl, rfl, HO, HG.out, HK.out⟩
            · go_num
            · have h1 := HBL.out k (by omega)
              have h2 := rNext_le L k 0 h1k (Nat.zero_le _)
              rw [rNext_start L k h1k, ← HX0.out] at h2
              omega
            · rw [rNext_start L k h1k, HX0.out]
          case round =>
            obtain ⟨j, y, o2, hm2, hj2, rfl, hy, HY, rfl, rfl, HO2, hg2, hk2⟩ := hrel
            have HG2 := Lib.hid hg2
            have HK2 := Lib.hid hk2
            clear hg2 hk2
            by_cases hlt : j < X.length
            · obtain ⟨kb, o3, hp, hkb, hc⟩ := (HX.out.kept HK2.out) j hlt
              subst hp
              have HJ := Lib.hid (HAT.out j hlt)
              have hJX := HJ.out.2.1
              have hJ15 := HJ.out.2.2
              obtain ⟨m, hmm⟩ : ∃ m, m = L[j]'(HJ.out.1) := ⟨_, rfl⟩
              rw [hJX, ← hmm] at hc
              rw [← hmm] at hJ15
              have HM := Lib.hid hmm
              clear hmm hJX
              by_cases hmk : m = k
              · have HMK := Lib.hid hmk
                have e1 : ((m : Int) != (k : Int)) = false := by rw [bne_eq_false_iff_eq]; omega
                have e1' : (m : Int) = (k : Int) := by omega
                clear hmk e1'
                by_cases hbig : 2 ^ k ≤ y
                · have HT := Lib.hid (show isTree L = false by
                    refine not_tree L j HJ.out.1 k ?_ h1k hk15 (by rw [← HY.out]; exact hbig)
                    rw [← HMK.out, HM.out])
                  have HV3 := Lib.hid (show codesV X = .error 3 by rw [HV2.out, HT.out]; rfl)
                  have e2 : wrap64 (2 ^ k) ≤ (y : Int) := by
                    rw [shl_pow (by omega)]; omega
                  clear hbig
                  go_wp2_with fail
                  go_ret2
                  exact codesA_no HV3.out HK2.out
                · have e2 : ¬ wrap64 (2 ^ k) ≤ (y : Int) := by
                    rw [shl_pow (by omega)]; omega
                  have d0 := HG2.out.cell j hlt
                  have d1 := HG2.out.free
                  clear hbig
                  go_wp2_with fail
                  go_roundg (X.length + 1 - (j + 1))
                  case measure => omega
                  case rel =>
                    have hL : L[j]'(HJ.out.1) = k := by rw [← HM.out, HMK.out]
                    refine ⟨j + 1, y + 1, decide (k = 1), rfl, by omega, by go_num, ?_, Lib.hid (by rw [rNext_step L k j HJ.out.1 hL, HY.out]), ?_, by go_num, Lib.hid (fun hu => rSeen_step L k j HJ.out.1 hL h1k hu), ?_, HK2.out.set HQ.out _⟩
                    · have z1 := rNext_step L k j HJ.out.1 hL
                      have z2 := rNext_le L k (j + 1) h1k (by rw [HN.out]; omega)
                      have z3 := HBL.out k (by omega)
                      have z4 := HY.out
                      omega
                    · congr 1
                      first
                        | (rw [Bool.eq_iff_iff, beq_iff_eq, decide_eq_true_eq]; omega)
                        | (rw [Bool.eq_iff_iff, decide_eq_true_eq, beq_iff_eq]; omega)
                        | (rw [Bool.eq_iff_iff, decide_eq_true_eq, decide_eq_true_eq]; omega)
                    · rw [← rOut_step L k j HJ.out.1 hL h1k, ← HY.out]
                      exact HG2.out.set j _
              · have e1 : ((m : Int) != (k : Int)) = true := by rw [bne_iff_ne]; omega
                have HMK := Lib.hid hmk
                clear hmk
                go_wp2_with fail
                go_roundg (X.length + 1 - (j + 1))
                case measure => omega
                case rel =>
                  have hL : L[j]'(HJ.out.1) ≠ k := by rw [← HM.out]; exact HMK.out
                  exact ⟨j + 1, y, o2, rfl, by omega, rfl, hy, Lib.hid (by rw [rNext_skip L k j HJ.out.1 hL, HY.out]), rfl, by go_num, Lib.hid (fun hu => by rw [rSeen_skip L k j HJ.out.1 hL h1k]; exact HO2.out hu), by rw [← rOut_skip L k j HJ.out.1 hL]; exact HG2.out, HK2.out⟩
            · obtain rfl : j = X.length := by omega
              go_wp2_with fail
              go_roundg (18 - (k + 1))
              case measure => omega
              case rel =>
                refine ⟨k + 1, y, o2, rfl, by omega, by omega, rfl, Lib.hid ?_, rfl, by go_num, Lib.hid (fun hu => ?_), HG2.out.fn _ fun i hi => ?_, HK2.out⟩
                · rw [HY.out, ← HN.out, rNext_end L k h1k]; rfl
                · have := HO2.out hu
                  rw [← HN.out, rSeen_round L k h1k] at this
                  exact this
                · have := rOut_round L k i (by rw [HN.out]; exact hi)
                  rw [HN.out] at this
                  exact this
        · obtain rfl : k = 16 := by omega
          have HE := Lib.hid (show ∀ i, i < X.length → rOut L 16 0 i = (((codes L).getD i 0 : Nat) : Int) from fun i hi => by
            have hil : i < L.length := by rw [HN.out]; exact hi
            rw [codes_get L i hil]
            refine rOut_end L (fun x hx => ?_) i hil
            obtain ⟨q, hq, rfl⟩ := List.getElem_of_mem hx
            exact (HAT.out q (by rw [← HN.out]; exact hq)).2.2)
          have HOK := Lib.hid (show isTree L = true → CodesA X w (.returned (.tuple #[.slice (some ⟨q, 0, none⟩) X.length X.length, .int .i64 0])) wr from fun ht => by
            have hV3 : codesV X = .ok (codes L) := by rw [HV2.out, ht]; rfl
            unfold CodesA
            rw [hV3]
            exact ⟨HK.out, _, rfl, HQ.out, HG.out.fn _ HE.out, by unfold codes; simp [HN.out]⟩)
          have HNO := Lib.hid (show isTree L = false → CodesA X w (.returned (.tuple #[.slice none 0 0, .int .i64 3])) wr from fun ht => codesA_no (by rw [HV2.out, ht]; rfl) HK.out)
          have HX15 := Lib.hid (show x = beh L 15 from HX0.out)
          have HO15 := Lib.hid (show used L = 1 → o = decide (0 < cnt L 1) from HO.out)
          clear HX0 HO
          by_cases hw : x = 32768
          · have e1 : ((x : Int) != 32768) = false := by rw [bne_eq_false_iff_eq]; omega
            have HT := Lib.hid (show isTree L = true by unfold isTree whole; rw [← HX15.out, hw]; rfl)
            clear hw
            go_wp2_with fail
            go_ret2
            exact HOK.out HT.out
          · have e1 : ((x : Int) != 32768) = true := by rw [bne_iff_ne]; omega
            have HW := Lib.hid (show whole L = false by unfold whole; rw [← HX15.out, beq_eq_false_iff_ne]; exact hw)
            clear hw
            by_cases hu0 : u = 0
            · have e2 : ¬ (0 : Int) < (u : Int) := by omega
              have HT := Lib.hid (show isTree L = true from tree_none L (by rw [← HUU.out, hu0]))
              clear hu0
              go_wp2_with fail
              go_ret2
              exact HOK.out HT.out
            · have e2 : (0 : Int) < (u : Int) := by omega
              by_cases hu1 : u = 1
              · have e3 : ((u : Int) == 1) = true := by rw [beq_iff_eq]; omega
                have HT := Lib.hid (tree_one L o HO15.out (by rw [← HUU.out, hu1]))
                clear hu0 hu1
                cases o with
                | true =>
                  go_wp2_with fail
                  go_ret2
                  exact HOK.out (by rw [HT.out, HW.out]; rfl)
                | false =>
                  go_wp2_with fail
                  go_ret2
                  exact HNO.out (by rw [HT.out, HW.out]; rfl)
              · have e3 : ((u : Int) == 1) = false := by rw [beq_eq_false_iff_ne]; omega
                have HT := Lib.hid (tree_more L (by rw [← HUU.out]; exact hu0) (by rw [← HUU.out]; exact hu1))
                clear hu0 hu1
                go_wp2_with fail
                go_ret2
                exact HNO.out (by rw [HT.out, HW.out])

end Go.Proofs.YtkobcgemllcfoaaDoor
