/-
  No code begins another.
-/
import Derived.Test.YtkobcgemllcfoaaDoorInfArgs
import Derived.Test.YtkobcgemllcfoaaDoorInfAwake
import Derived.Test.YtkobcgemllcfoaaDoorInfTree
import Derived.Deep.QuietTactic
import Derived.BigQuiet
namespace Go.Proofs.YtkobcgemllcfoaaDoor
open Go.RowKit Ix
set_option linter.unusedSimpArgs false
set_option linter.unusedVariables false

theorem inR_nat {X : List Int} (h : X.all inR = true) (i : Nat) (hi : i < X.length) : X[i] = (((X.map Int.toNat)[i]'(by simpa using hi) : Nat) : Int) ∧ (X.map Int.toNat)[i]'(by simpa using hi) ≤ 15 := by
  have := List.all_eq_true.1 h X[i] (List.getElem_mem hi)
  unfold inR at this
  rw [Bool.and_eq_true, decide_eq_true_eq, decide_eq_true_eq] at this
  simp only [List.getElem_map]
  omega
theorem shl_one {n : Nat} (h : n ≤ 15) : IntKind.i64.wrap (2 ^ min (IntKind.u64.wrap (n : Int)).toNat 64) = ((2 ^ n : Nat) : Int) := by
  have key : (List.range 16).all (fun n => IntKind.i64.wrap (2 ^ min (IntKind.u64.wrap (n : Int)).toNat 64) == ((2 ^ n : Nat) : Int)) = true := by kernel_rfl
  exact beq_iff_eq.1 (List.all_eq_true.1 key n (List.mem_range.2 (by omega)))
theorem shr_sub {x a n : Nat} (h : a ≤ 15) (hn : n ≤ a) : (x : Int) / 2 ^ (a - n) = ((x / 2 ^ (a - n) : Nat) : Int) := by simp

set_option maxRecDepth 100000 in
set_option maxHeartbeats 4000000 in
theorem InflateApart_walk (v : Value) (X : List Int) (w : World) (h : IntArg w v X) :
    Calls Tryd.prog 7 #[v] w fun e w' => e = .returned (.bool true) ∧ Kept w w' := by
  obtain ⟨p, c, rfl, hx, hlc, hlm⟩ := h
  have HX := Lib.hid hx
  have AW := Lib.hid (awake6_any w)
  have hlm2 : X.length ≤ 9223372036854775807 := by unfold maxLen at hlm; omega
  have CA := Lib.hid (fun w' (k : Kept w w') => Codes_any X p c w' (hx.kept k) hlm2)
  clear hx hlm
  by_cases h1 : 120 < X.length
  · have e1 : (120 : Int) < (X.length : Int) := by omega
    go_enter Tryd.func7, Tryd.ntmps7
    go_wp2_with fail
    (with_reducible refine AW.out.mono ?_)
    rintro e w1 ⟨rfl, hk1⟩
    have K1 := Lib.hid hk1
    clear hk1
    go_wp2_with fail
    go_ret
    exact ⟨rfl, K1.out⟩
  · have e1 : ¬ (120 : Int) < (X.length : Int) := by omega
    cases hV : codesV X with
    | error k =>
      have hk0 : (k != 0) = true := by rcases codesV_err hV with rfl | rfl <;> rfl
      have CE := Lib.hid (fun e w' w'' (h : CodesA X w' e w'') => (show Kept w' w'' ∧ e = .returned (.tuple #[.slice none 0 0, .int .i64 k]) by
        unfold CodesA at h; rw [hV] at h; exact h))
      clear hV
      go_enter Tryd.func7, Tryd.ntmps7
      go_wp2_with fail
      (with_reducible refine AW.out.mono ?_)
      rintro e w1 ⟨rfl, hk1⟩
      have K1 := Lib.hid hk1
      clear hk1
      go_wp2_with fail
      (with_reducible refine (CA.out _ K1.out).mono ?_)
      intro e w2 hca
      obtain ⟨hk2, rfl⟩ := CE.out _ _ _ hca
      have K2 := Lib.hid (K1.out.trans hk2)
      clear hca hk2
      go_wp2_with fail
      go_ret
      exact ⟨rfl, K2.out⟩
    | ok l =>
      obtain ⟨hl0, hl1, hl2, hl3⟩ := codesV_ok hV
      have CE := Lib.hid (fun e w' w'' (h : CodesA X w' e w'') => (show Kept w' w'' ∧ ∃ g, e = .returned (.tuple #[.slice (some ⟨g, 0, none⟩) X.length X.length, .int .i64 0]) ∧ w'.heap.size ≤ g ∧ Arr w'' g X.length (fun i => ((l.getD i 0 : Nat) : Int)) 3 ∧ l.length = X.length by
        unfold CodesA at h; rw [hV] at h; exact h))
      have HIN := Lib.hid hl2
      have HT := Lib.hid hl3
      have HL := Lib.hid hl0
      clear hV hl0 hl1 hl2 hl3
      go_enter Tryd.func7, Tryd.ntmps7
      go_wp2_with fail
      (with_reducible refine AW.out.mono ?_)
      rintro e w1 ⟨rfl, hk1⟩
      have K1 := Lib.hid hk1
      clear hk1
      go_wp2_with fail
      (with_reducible refine (CA.out _ K1.out).mono ?_)
      intro e w2 hca
      obtain ⟨hk2, g, rfl, hg, harr, -⟩ := CE.out _ _ _ hca
      have K2 := Lib.hid (K1.out.trans hk2)
      have HA := Lib.hid harr
      clear hca hk2 harr
      go_wp2_with fail
      go_loopg [6, 7] (X.length + 1) (fun m i k wr => ∃ j : Nat, m = X.length + 1 - j ∧ j ≤ X.length ∧ i = .int .i64 j ∧ Kept w2 wr)
      case atStart => exact ⟨0, rfl, Nat.zero_le _, rfl, Kept.refl _⟩
      case round =>
        obtain ⟨j, hm, hj, rfl, hkr⟩ := hrel
        obtain ⟨W0, rfl⟩ : ∃ W0, W0 = wr := ⟨_, rfl⟩
        have KR := Lib.hid hkr
        clear hkr
        by_cases hlt : j < X.length
        · obtain ⟨kb, o, hp, hkb, hc0⟩ := HX.out j hlt
          subst hp
          obtain ⟨hxn, hn15⟩ := inR_nat HIN.out j hlt
          have KW := Lib.hid (K2.out.trans KR.out)
          have hLj : j < (X.map Int.toNat).length := by simpa using hlt
          have hfit := code_fits (X.map Int.toNat) (fun y hy => by
            obtain ⟨q, hq, rfl⟩ := List.getElem_of_mem hy
            exact (inR_nat HIN.out q (by simpa using hq)).2) HT.out j hLj
          have hcg : l.getD j 0 = code (X.map Int.toNat) j := by rw [HL.out]; exact codes_get _ j hLj
          have hcA := (HA.out.kept KR.out).cell j hlt
          have hcX : W0.cell? ⟨kb, o + j, none⟩ = some (.int .i64 X[j]) := (KW.out.cells.1 _ _ hkb).trans hc0
          rw [hxn] at hcX
          simp only [hcg] at hcA
          obtain ⟨n, hn⟩ : ∃ n, n = (X.map Int.toNat)[j] := ⟨_, rfl⟩
          obtain ⟨x, hx⟩ : ∃ x, x = code (X.map Int.toNat) j := ⟨_, rfl⟩
          rw [← hn] at hcX hfit hn15
          rw [← hx] at hcA hfit
          have HN := Lib.hid hn
          have HXX := Lib.hid hx
          have c2 : ¬ (x : Int) < 0 := by omega
          have j1 : (j : Int) < (X.length : Int) := by omega
          have hp15 : 2 ^ n ≤ 2 ^ 15 := Nat.pow_le_pow_right (by decide) hn15
          have n0 : ¬ (n : Int) < 0 := by omega
          clear hc0 hxn hcg hn hx
          have c3 : ¬ IntKind.i64.wrap (2 ^ min (IntKind.u64.wrap (n : Int)).toNat 64) ≤ (x : Int) := by
            rw [shl_one hn15]; omega
          have hkbr : kb < W0.heap.size := Nat.lt_of_lt_of_le hkb (Below.size KW.out)
          have hgr : g < W0.heap.size := (HA.out.kept KR.out).lt
          by_cases h0 : n = 0
          · have d0 : ((n : Int) == 0) = true := by rw [beq_iff_eq]; omega
            have dx : ((x : Int) != 0) = false := by
              rw [bne_eq_false_iff_eq]
              have : x < 2 ^ 0 := by rw [← h0]; exact hfit
              omega
            clear h0
            go_wp2_with fail
            go_quiet (fail)
            go_wp2_with fail
            go_loopg [7] (X.length + 1) (fun m k w' => ∃ q : Nat, m = X.length + 1 - q ∧ q ≤ X.length ∧ k = .int .i64 q ∧ Kept W0 w')
            case atStart => exact ⟨0, rfl, Nat.zero_le _, rfl, (Kept.refl W0).drewN _⟩
            case round =>
              obtain ⟨q, hm2, hq, rfl, hkq⟩ := hrel
              have KQ := Lib.hid hkq
              clear hkq
              by_cases hlt2 : q < X.length
              · obtain ⟨kb2, o2, hp2, hkb2, hc2⟩ := HX.out q hlt2
                have e12 : kb2 = kb ∧ o2 = o := by
                  have e := Option.some.inj hp2
                  exact ⟨(congrArg Addr.block e).symm, (congrArg Addr.off e).symm⟩
                rw [e12.1, e12.2] at hc2
                obtain ⟨hxn, hn15'⟩ := inR_nat HIN.out q hlt2
                have KW2 := Lib.hid (KW.out.trans KQ.out)
                have hLq : q < (X.map Int.toNat).length := by simpa using hlt2
                have hcg : l.getD q 0 = code (X.map Int.toNat) q := by rw [HL.out]; exact codes_get _ q hLq
                have hcA2 := (HA.out.kept (KR.out.trans KQ.out)).cell q hlt2
                have hcX2 : wr.cell? ⟨kb, o + q, none⟩ = some (.int .i64 X[q]) := (KW2.out.cells.1 _ _ hkb).trans hc2
                have hcX1 : wr.cell? ⟨kb, o + j, none⟩ = some (.int .i64 n) := (KQ.out.cells.1 _ _ hkbr).trans hcX
                have hcA1 : wr.cell? ⟨g, j, none⟩ = some (.int .i64 x) := (KQ.out.cells.1 _ _ hgr).trans hcA
                rw [hxn] at hcX2
                simp only [hcg] at hcA2
                obtain ⟨nq', hnq⟩ : ∃ nq', nq' = (X.map Int.toNat)[q] := ⟨_, rfl⟩
                obtain ⟨xq, hxq⟩ : ∃ xq, xq = code (X.map Int.toNat) q := ⟨_, rfl⟩
                rw [← hnq] at hcX2 hn15'
                rw [← hxq] at hcA2
                have HAP := Lib.hid (fun (h0 : 0 < n) (hle : n ≤ nq') (hne : q ≠ j) => (show xq / 2 ^ (nq' - n) ≠ x by
                  have z := code_apart (X.map Int.toNat) j q hLj hLq (by rw [← HN.out]; exact h0) (by rw [← HN.out, ← hnq]; exact hle) hne
                  rw [← HN.out, ← hnq, ← hxq, ← HXX.out] at z
                  exact z))
                have q1 : (q : Int) < (X.length : Int) := by omega
                clear hc2 hxn hcg hnq hxq hp2 e12
                by_cases hqj : q = j
                · have dk : ((q : Int) != (j : Int)) = false := by rw [bne_eq_false_iff_eq]; omega
                  clear hqj
                  go_wp2_with fail
                  go_quiet (fail)
                  go_wp2_with fail
                  go_roundg (X.length + 1 - (q + 1))
                  case measure => omega
                  case rel => exact ⟨q + 1, rfl, by omega, by go_num, KQ.out.drewN _⟩
                have dk : ((q : Int) != (j : Int)) = true := by rw [bne_iff_ne]; omega
                have dk2 : (q != j) = true := by rw [bne_iff_ne]; exact hqj
                have dk3 : ((q : Int) == (j : Int)) = false := by rw [beq_eq_false_iff_ne]; omega
                by_cases dn2 : ¬ 0 < n
                · have dn : ¬ (0 : Int) < (n : Int) := by omega
                  go_wp2_with fail
                  go_quiet (fail)
                  go_wp2_with fail
                  go_roundg (X.length + 1 - (q + 1))
                  case measure => omega
                  case rel => exact ⟨q + 1, rfl, by omega, by go_num, KQ.out.drewN _⟩
                exact absurd (beq_iff_eq.1 d0) (by omega)
              · obtain rfl : q = X.length := by omega
                go_wp2_with fail
                go_roundg (X.length + 1 - (j + 1))
                case measure => omega
                case rel => exact ⟨j + 1, rfl, by omega, by go_num, KR.out.trans KQ.out⟩
          · have d0 : ((n : Int) == 0) = false := by rw [beq_eq_false_iff_ne]; omega
            clear h0
            go_wp2_with fail
            go_quiet (fail)
            go_wp2_with fail
            go_loopg [7] (X.length + 1) (fun m k w' => ∃ q : Nat, m = X.length + 1 - q ∧ q ≤ X.length ∧ k = .int .i64 q ∧ Kept W0 w')
            case atStart => exact ⟨0, rfl, Nat.zero_le _, rfl, (Kept.refl W0).drewN _⟩
            case round =>
              obtain ⟨q, hm2, hq, rfl, hkq⟩ := hrel
              have KQ := Lib.hid hkq
              clear hkq
              by_cases hlt2 : q < X.length
              · obtain ⟨kb2, o2, hp2, hkb2, hc2⟩ := HX.out q hlt2
                have e12 : kb2 = kb ∧ o2 = o := by
                  have e := Option.some.inj hp2
                  exact ⟨(congrArg Addr.block e).symm, (congrArg Addr.off e).symm⟩
                rw [e12.1, e12.2] at hc2
                obtain ⟨hxn, hn15'⟩ := inR_nat HIN.out q hlt2
                have KW2 := Lib.hid (KW.out.trans KQ.out)
                have hLq : q < (X.map Int.toNat).length := by simpa using hlt2
                have hcg : l.getD q 0 = code (X.map Int.toNat) q := by rw [HL.out]; exact codes_get _ q hLq
                have hcA2 := (HA.out.kept (KR.out.trans KQ.out)).cell q hlt2
                have hcX2 : wr.cell? ⟨kb, o + q, none⟩ = some (.int .i64 X[q]) := (KW2.out.cells.1 _ _ hkb).trans hc2
                have hcX1 : wr.cell? ⟨kb, o + j, none⟩ = some (.int .i64 n) := (KQ.out.cells.1 _ _ hkbr).trans hcX
                have hcA1 : wr.cell? ⟨g, j, none⟩ = some (.int .i64 x) := (KQ.out.cells.1 _ _ hgr).trans hcA
                rw [hxn] at hcX2
                simp only [hcg] at hcA2
                obtain ⟨nq', hnq⟩ : ∃ nq', nq' = (X.map Int.toNat)[q] := ⟨_, rfl⟩
                obtain ⟨xq, hxq⟩ : ∃ xq, xq = code (X.map Int.toNat) q := ⟨_, rfl⟩
                rw [← hnq] at hcX2 hn15'
                rw [← hxq] at hcA2
                have HAP := Lib.hid (fun (h0 : 0 < n) (hle : n ≤ nq') (hne : q ≠ j) => (show xq / 2 ^ (nq' - n) ≠ x by
                  have z := code_apart (X.map Int.toNat) j q hLj hLq (by rw [← HN.out]; exact h0) (by rw [← HN.out, ← hnq]; exact hle) hne
                  rw [← HN.out, ← hnq, ← hxq, ← HXX.out] at z
                  exact z))
                have q1 : (q : Int) < (X.length : Int) := by omega
                clear hc2 hxn hcg hnq hxq hp2 e12
                by_cases hqj : q = j
                · have dk : ((q : Int) != (j : Int)) = false := by rw [bne_eq_false_iff_eq]; omega
                  clear hqj
                  go_wp2_with fail
                  go_quiet (fail)
                  go_wp2_with fail
                  go_roundg (X.length + 1 - (q + 1))
                  case measure => omega
                  case rel => exact ⟨q + 1, rfl, by omega, by go_num, KQ.out.drewN _⟩
                have dk : ((q : Int) != (j : Int)) = true := by rw [bne_iff_ne]; omega
                have dk2 : (q != j) = true := by rw [bne_iff_ne]; exact hqj
                have dk3 : ((q : Int) == (j : Int)) = false := by rw [beq_eq_false_iff_ne]; omega
                by_cases dn2 : ¬ 0 < n
                · have dn : ¬ (0 : Int) < (n : Int) := by omega
                  go_wp2_with fail
                  go_quiet (fail)
                  go_wp2_with fail
                  go_roundg (X.length + 1 - (q + 1))
                  case measure => omega
                  case rel => exact ⟨q + 1, rfl, by omega, by go_num, KQ.out.drewN _⟩
                have dn2 : 0 < n := by omega
                have dn : (0 : Int) < (n : Int) := by omega
                by_cases hle : n ≤ nq'
                · have dl : (n : Int) ≤ (nq' : Int) := by omega
                  have hap := HAP.out (by omega) hle hqj
                  have HS := Lib.hid (shr_sub (x := xq) hn15' hle)
                  have ds : ((xq : Int) / 2 ^ (nq' - n) == (x : Int)) = false := by
                    rw [HS.out, beq_eq_false_iff_ne]; omega
                  go_wp2_with fail
                  go_quiet (fail)
                  go_wp2_with fail
                  go_roundg (X.length + 1 - (q + 1))
                  case measure => omega
                  case rel => exact ⟨q + 1, rfl, by omega, by go_num, KQ.out.drewN _⟩
                · have dl : ¬ (n : Int) ≤ (nq' : Int) := by omega
                  go_wp2_with fail
                  go_quiet (fail)
                  go_wp2_with fail
                  go_roundg (X.length + 1 - (q + 1))
                  case measure => omega
                  case rel => exact ⟨q + 1, rfl, by omega, by go_num, KQ.out.drewN _⟩
              · obtain rfl : q = X.length := by omega
                go_wp2_with fail
                go_roundg (X.length + 1 - (j + 1))
                case measure => omega
                case rel => exact ⟨j + 1, rfl, by omega, by go_num, KR.out.trans KQ.out⟩
        · obtain rfl : j = X.length := by omega
          go_wp2_with fail
          go_ret
          exact ⟨rfl, K2.out.trans KR.out⟩

end Go.Proofs.YtkobcgemllcfoaaDoor
