/-
  The law OpsWrap answers true.
-/
import Derived.Test.YtkpagahnmbchjaaGreatDoorOpsAwake
import Derived.Test.YtkpagahnmbchjaaGreatDoorOpsL
namespace Go.Proofs.YtkpagahnmbchjaaGreatDoor
open Go.RowKit Cx
set_option linter.unusedSimpArgs false
set_option linter.unusedVariables false

set_option maxRecDepth 100000 in
set_option maxHeartbeats 16000000 in
theorem OpsWrap_walk (v : Value) (rs : ORow) (p : Option Addr) (c : Nat) (w : World) (hf : Fine w) (ha : OpsArg w v rs p c) (hfit : rs.length ≤ 140737488355328 ∧ ∀ r ∈ rs, Ob.Fits 140737488355328 r.1) :
    Calls Tryz.prog 4 #[v] w fun e w' => e = .returned (.bool true) ∧ Kept w w' := by
  have HF := Lib.hid hf
  have AW := Lib.hid (awake11_any w hf)
  have HR := Lib.hid ha.row
  have FW := Lib.hid (fun w' (k : Kept w w') => FewP_any rs p c v 2000 w' ⟨ha.val, ha.row.kept k, ha.ops, ha.nil⟩ hfit (by decide) (by decide))
  have OU := Lib.hid (fun w' (k : Kept w w') (hb : rs.length ≤ 1099511627776) => opsOurs_any rs p c w' (ha.row.kept k) hb)
  obtain ⟨rfl, -, -, -⟩ := ha
  unfold FewPost at FW
  unfold OursPost at OU
  obtain ⟨L, hL⟩ : ∃ L, L = rs.length := ⟨_, rfl⟩
  have HL := Lib.hid hL
  rw [← hL] at FW OU ⊢
  clear hf hfit hL
  go_enter Tryz.func4, Tryz.ntmps4
  (try simp only [List.append_eq, List.cons_append, List.nil_append])
  go_wp2_with fail
  (with_reducible refine AW.out.mono ?_)
  rintro e w1 ⟨rfl, k1⟩
  have K1 := Lib.hid k1
  clear k1 AW
  go_wp2_with fail
  (with_reducible refine (FW.out _ K1.out).mono ?_)
  rintro e w2 ⟨b, rfl, hk2, hb⟩
  have K2 := Lib.hid (K1.out.trans hk2)
  clear hk2 FW
  cases b
  · go_wp2_with fail
    go_ret
    exact ⟨rfl, K2.out⟩
  have hL2 : L ≤ 2000 := by have := (hb rfl).1; omega
  clear hb
  go_wp2_with fail
  go_loopg [4] L (fun m i wr => ∃ j : Nat, m = L - j ∧ j ≤ L ∧ i = .int .i64 j ∧ Hid (NoText ((rs.map (·.1)).take j)) ∧ wr = w2)
  case atStart => exact ⟨0, by omega, Nat.zero_le _, rfl, Lib.hid (fun x hx => by cases hx), rfl⟩
  case round =>
    obtain ⟨j, hm, hj, rfl, HNT, rfl⟩ := hrel
    by_cases hlt : j < L
    · have j1 : (j : Int) < (L : Int) := by omega
      have hjr : j < rs.length := by have := HL.out; omega
      obtain ⟨kb, off, hpe, -, hbl, c0, -⟩ := (HR.out.kept K2.out).at' j hjr
      subst hpe
      obtain ⟨nm, hnm⟩ : ∃ nm, nm = (rs[j]'hjr).1.s := ⟨_, rfl⟩
      rw [← hnm] at c0
      have HTX := Lib.hid (show nm.data.toList ≠ [66, 84] → nm.data.toList ≠ [69, 84] → NoText ((rs.map (·.1)).take (j + 1)) from fun h1 h2 x hx => by
        rw [List.take_succ_eq_append_getElem (by rw [List.length_map]; exact hjr)] at hx
        rcases List.mem_append.1 hx with hx | hx
        · exact HNT.out x hx
        · rw [List.mem_singleton.1 hx, List.getElem_map, ← hnm]; exact ⟨h1, h2⟩)
      rw [← Lib.toList_data] at HTX
      clear hnm
      cases e1 : (nm.toList == [66, 84])
      · cases e2 : (nm.toList == [69, 84])
        · have HT2 := Lib.hid (HTX.out (by simpa using e1) (by simpa using e2))
          go_wp2_with fail
          go_roundg (L - (j + 1))
          case measure => omega
          case rel => exact ⟨j + 1, rfl, hlt, by go_num, HT2, rfl⟩
        · go_wp2_with fail
          go_ret
          exact ⟨rfl, K2.out⟩
      · go_wp2_with fail
        go_ret
        exact ⟨rfl, K2.out⟩
    · obtain rfl : j = L := by omega
      have NT := Lib.hid (show NoText (rs.map (·.1)) by
        have := HNT.out
        rwa [List.take_of_length_le (by rw [List.length_map, HL.out]; exact Nat.le_refl _)] at this)
      have OU1 := Lib.hid (OU.out _ K2.out (by have := HL.out; omega))
      go_wp2_with fail
      (with_reducible refine OU1.out.mono ?_)
      rintro e w3 ⟨p1, c1, rfl, hk3, hr3, hn3, hp3⟩
      have K3 := Lib.hid (K2.out.trans hk3)
      have WP := Lib.hid (Wrap_any rs p1 c1 w3 hr3 hn3 hp3 (by have := HL.out; omega))
      rw [← HL.out] at WP
      unfold WrapPost at WP
      clear hk3 hr3 hn3 hp3 OU1
      go_wp2_with fail
      (with_reducible refine WP.out.mono ?_)
      rintro e w4 ⟨p2, c2, rs2, rfl, hk4, hm4, hr4⟩
      have K4 := Lib.hid (K3.out.trans hk4)
      have hlen2 : rs2.length = (wrapV (rs.map (·.1))).length := by rw [← hm4, List.length_map]
      have hge := wrap_two (rs.map (·.1))
      rw [List.length_map, ← HL.out] at hge
      obtain ⟨M, hM⟩ : ∃ M, rs2.length = M + 1 := ⟨rs2.length - 1, by omega⟩
      have BA0 := Balanced_any _ rs2 p2 c2 w4 hr4 (by
        have h1 := wrap_len (rs.map (·.1))
        have h2 := least_bound (rs.map (·.1))
        have h3 := kept_bound (rs.map (·.1))
        rw [List.length_map, ← HL.out] at h1 h2 h3
        omega)
      rw [hm4, wrap_bal NT.out, hM] at BA0
      rw [hM]
      have BA := Lib.hid BA0
      -- the first and the last
      have hmap : ∀ i (hi : i < rs2.length) o, (wrapV (rs.map (·.1)))[i]? = some o → (rs2[i]'hi).1 = o := fun i hi o ho => by
        rw [← hm4, List.getElem?_map, List.getElem?_eq_getElem hi] at ho
        exact Option.some.inj ho
      obtain ⟨b2, off2, hp2, -, hlt2, f0, -⟩ := hr4.at' 0 (by omega)
      obtain ⟨b2', off2', hp2', -, -, f1, -⟩ := hr4.at' M (by omega)
      rw [hp2] at hp2'
      injection hp2' with hp2'
      injection hp2' with e1 e2
      subst e1 e2
      rw [hmap 0 (by omega) qO (by rw [List.getElem?_eq_getElem (by omega), wrap_first _ (by omega)])] at f0
      rw [hmap M (by omega) bO (by have := wrap_last (rs.map (·.1)); rw [← hlen2, hM] at this; exact this)] at f1
      rw [Nat.zero_mul, Nat.add_zero] at f0
      subst hp2
      have KF := Lib.hid (show ∀ W, Kept w4 W → W.cell? ⟨b2, off2, none⟩ = some (.string ⟨#[113]⟩) ∧ W.cell? ⟨b2, off2 + M * 2, none⟩ = some (.string ⟨#[81]⟩) from fun W k => ⟨(k.cells.1 b2 _ hlt2).trans f0, (k.cells.1 b2 _ hlt2).trans f1⟩)
      have i2 : ¬ ((M + 1 : Nat) : Int) < (j : Int) + 2 := by omega
      have hMb : M ≤ 1000000 := by
        have h1 := wrap_len (rs.map (·.1))
        have h2 := least_bound (rs.map (·.1))
        have h3 := kept_bound (rs.map (·.1))
        rw [List.length_map, ← HL.out] at h1 h2 h3
        omega
      have HSM := Lib.hid (show balV (rs.map (·.1)) = true → M + 1 = j + 2 from fun h => by
        have := wrap_same NT.out h
        rw [← hlen2, hM, List.length_map, ← HL.out] at this
        exact this)
      clear hk4 hm4 hr4 hlen2 hge hM BA0 hmap f0 f1 hlt2
      go_wp2_with fail
      (with_reducible refine BA.out.mono ?_)
      rintro e w5 ⟨rfl, hk5⟩
      have K5 := Lib.hid (K4.out.trans hk5)
      obtain ⟨f0, f1⟩ := KF.out w5 hk5
      have fz := World.block_lt_of_cell? w5 _ f0
      clear hk5
      have OU2 := Lib.hid (OU.out _ K5.out (by have := HL.out; omega))
      go_wp2_with fail
      (with_reducible refine OU2.out.mono ?_)
      rintro e w6 ⟨p3, c3, rfl, hk6, hr6, hn6, hp6⟩
      have K6 := Lib.hid (K5.out.trans hk6)
      obtain ⟨y, hy⟩ : ∃ y, y = balV (rs.map (·.1)) := ⟨_, rfl⟩
      have BB0 := Balanced_any _ rs p3 c3 w6 hr6 (by have := HL.out; omega)
      rw [← hy, ← HL.out] at BB0
      rw [← hy] at HSM
      have BB := Lib.hid BB0
      clear hk6 hr6 hn6 hp6 BB0 hy f0 f1 fz
      cases y
      · go_wp2_with fail
        (with_reducible refine BB.out.mono ?_)
        rintro e w7 ⟨rfl, hk7⟩
        have K7 := Lib.hid (K6.out.trans hk7)
        clear hk7
        go_wp2_with fail
        go_ret
        exact ⟨rfl, K7.out⟩
      · have hMj := HSM.out rfl
        obtain rfl : M = j + 1 := by omega
        clear hMj
        go_wp2_with fail
        (with_reducible refine BB.out.mono ?_)
        rintro e w7 ⟨rfl, hk7⟩
        have K7 := Lib.hid (K6.out.trans hk7)
        clear hk7
        go_wp2_with fail
        go_ret
        have e2 : ((j : Int) + 1 + 1 == (j : Int) + 2) = true := by rw [beq_iff_eq]; omega
        exact ⟨(show _ = Ending.returned (Value.bool ((j : Int) + 1 + 1 == (j : Int) + 2)) from rfl).trans (by rw [e2]), K7.out⟩

end Go.Proofs.YtkpagahnmbchjaaGreatDoor
