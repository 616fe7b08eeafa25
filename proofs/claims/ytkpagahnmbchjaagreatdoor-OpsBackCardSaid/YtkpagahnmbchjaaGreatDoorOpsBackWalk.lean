/-
  The law OpsBack answers true.
-/
import Derived.Test.YtkpagahnmbchjaaGreatDoorOpsAwake
import Derived.Test.YtkpagahnmbchjaaGreatDoorOpsL
import Derived.Test.YtkpagahnmbchjaaGreatDoorOpsBackFacts
import Derived.Test.YtkpagahnmbchjaaGreatDoorOpsPlA
import Derived.Test.YtkpagahnmbchjaaGreatDoorOpsSame
import Derived.Test.YtkpagahnmbchjaaGreatDoorOpsP
namespace Go.Proofs.YtkpagahnmbchjaaGreatDoor
open Go.RowKit Cx
set_option linter.unusedSimpArgs false
set_option linter.unusedVariables false

set_option maxRecDepth 100000 in
set_option maxHeartbeats 16000000 in
theorem OpsBack_walk (v : Value) (rs : ORow) (p : Option Addr) (c : Nat) (w : World) (hf : Fine w) (ha : OpsArg w v rs p c) (hfit : rs.length ≤ 140737488355328 ∧ ∀ r ∈ rs, Ob.Fits 140737488355328 r.1) :
    Calls Tryz.prog 3 #[v] w fun e w' => e = .returned (.bool true) ∧ Kept w w' := by
  have HF := Lib.hid hf
  have AW := Lib.hid (awake11_any w hf)
  have HR := Lib.hid ha.row
  have HOP := Lib.hid ha.ops
  have FW := Lib.hid (fun w' (k : Kept w w') => FewP_any rs p c v 2000 w' ⟨ha.val, ha.row.kept k, ha.ops, ha.nil⟩ hfit (by decide) (by decide))
  have OU := Lib.hid (fun w' (k : Kept w w') (hb : rs.length ≤ 1099511627776) => opsOurs_any rs p c w' (ha.row.kept k) hb)
  obtain ⟨rfl, -, -, -⟩ := ha
  unfold FewPost at FW
  unfold OursPost at OU
  obtain ⟨L, hL⟩ : ∃ L, L = rs.length := ⟨_, rfl⟩
  have HL := Lib.hid hL
  rw [← hL] at FW OU ⊢
  clear hf hfit hL
  go_enter Tryz.func3, Tryz.ntmps3
  (try simp only [List.append_eq, List.cons_append, List.nil_append])
  go_wp2_with fail
  (with_reducible refine AW.out.mono ?_)
  rintro e w1 ⟨rfl, k1⟩
  have K1 := Lib.hid k1
  clear k1 AW
  go_wp2_with fail
  (with_reducible refine (FW.out _ K1.out).mono ?_)
  rintro e w2 ⟨b, rfl, hk2, hb⟩
  have K2 := Lib.hid (K1.out.trans hk2)
  clear hk2 FW
  cases b
  · go_wp2_with fail
    go_ret
    exact ⟨rfl, K2.out⟩
  have hL2 : L ≤ 2000 := by have := (hb rfl).1; omega
  have FWW := Lib.hid (FewW.of HOP.out (hb rfl).2)
  clear hb
  go_wp2_with fail
  go_loopg [4] L (fun m i wr => ∃ j : Nat, m = L - j ∧ j ≤ L ∧ i = .int .i64 j ∧ Hid (∀ i (h : i < j) (h1 : i < rs.length), ∀ x ∈ rs[i].1.l, x.norm = x) ∧ Hid (Kept w wr))
  case atStart => exact ⟨0, by omega, Nat.zero_le _, rfl, Lib.hid (fun i h => absurd h (Nat.not_lt_zero _)), K2⟩
  case round =>
    obtain ⟨j, hm, hj, rfl, HNJ, KJ⟩ := hrel
    by_cases hlt : j < L
    · have j1 : (j : Int) < (L : Int) := by omega
      have hjr : j < rs.length := by have := HL.out; omega
      obtain ⟨b1, o1, hp1, -, hbl1, k0, k1⟩ := HR.out.at' j hjr
      have LX1 := HR.out.lies _ (List.getElem_mem hjr)
      subst hp1
      obtain ⟨R1, hR1⟩ : ∃ R1, R1 = rs[j] := ⟨_, rfl⟩
      rw [← hR1] at k0 k1 LX1
      have HR1 := Lib.hid hR1
      clear hR1
      obtain ⟨⟨xk, xn, xf, nm, xl, xd⟩, ⟨hp, hc, hq, he⟩⟩ := R1
      simp only [Ob.l, Ob.s] at k0 k1 LX1
      obtain ⟨N, hN⟩ : ∃ N, N = xl.length := ⟨_, rfl⟩
      have hbx := LX1.bounds.1
      unfold maxLen at hbx
      simp only [Ob.l] at hbx
      rw [← hN] at k1 hbx
      have HN := Lib.hid hN
      have HX1 := Lib.hid LX1
      have SO := Lib.hid (show ∀ w', Kept w w' → w'.cell? ⟨b1, o1 + j * 2 + 1, none⟩ = some (.slice hp N hc) from fun w' k => by
        have K := (Kept.cells k).1
        exact (K _ _ hbl1).trans k1)
      clear k0 k1 LX1 hN hbl1
      go_wp2_with fail
      go_loopg [5] N (fun m i wr => ∃ k : Nat, m = N - k ∧ k ≤ N ∧ i = .int .i64 k ∧ Hid (∀ i (h : i < k) (h1 : i < xl.length), xl[i].norm = xl[i]) ∧ Hid (Kept w wr))
      case atStart => exact ⟨0, by omega, Nat.zero_le _, rfl, Lib.hid (fun i h => absurd h (Nat.not_lt_zero _)), KJ⟩
      case round =>
        obtain ⟨k, hmk, hk, rfl, HNK, KK⟩ := hrel
        have d1 := SO.out _ KK.out
        by_cases hkt : k < N
        · have k1' : (k : Int) < (N : Int) := by omega
          obtain ⟨x, b, off, ⟨p', c', q', e'⟩, hxe, hpe, -, hbl, hx, y0, y1, y2, y3, y4, y5⟩ := (HX1.out.kept KK.out).elem k (by have := HN.out; exact this ▸ hkt)
          simp only [Ob.l] at hxe
          simp only [] at hpe y4 y5
          subst hpe
          have HXE := Lib.hid hxe
          have PL0 := plainp_any _ x ⟨p', c', q', e'⟩ _ hx
          unfold objV at PL0
          simp only [] at PL0
          have PL := Lib.hid PL0
          clear hx hxe PL0
          go_wp2_with fail
          (with_reducible refine PL.out.mono ?_)
          rintro e wn hp0
          obtain ⟨X, rfl, kn, hX⟩ := hp0
          have KN := Lib.hid (KK.out.trans kn)
          have HX := Lib.hid hX
          clear kn hX
          cases X
          · go_wp2_with fail
            go_ret
            exact ⟨rfl, KN.out⟩
          · have HS1 := Lib.hid (show ∀ i (h : i < k + 1) (h1 : i < xl.length), xl[i].norm = xl[i] from fun i h h1 => by
              by_cases hij : i < k
              · exact HNK.out i hij h1
              · obtain rfl : i = k := by omega
                rw [HXE.out]; exact HX.out rfl)
            go_wp2_with fail
            go_roundg (N - (k + 1))
            case measure => omega
            case rel => exact ⟨k + 1, rfl, by omega, by go_num, HS1, KN⟩
        · obtain rfl : k = N := by omega
          have HS1 := Lib.hid (show ∀ i (h : i < j + 1) (h1 : i < rs.length), ∀ x ∈ rs[i].1.l, x.norm = x from fun i h h1 x hx => by
            by_cases hij : i < j
            · exact HNJ.out i hij h1 x hx
            · obtain rfl : i = j := by omega
              rw [← HR1.out] at hx
              obtain ⟨q, hq, rfl⟩ := List.mem_iff_getElem.1 (show x ∈ xl from hx)
              exact HNK.out q (by have := HN.out; omega) hq)
          go_wp2_with fail
          go_roundg (L - (j + 1))
          case measure => omega
          case rel => exact ⟨j + 1, rfl, by omega, by go_num, HS1, KK⟩
    · obtain rfl : j = L := by omega
      have KR := Lib.hid KJ.out
      have HNN := Lib.hid (show ∀ o ∈ rs.map (·.1), ∀ x ∈ o.l, x.norm = x from fun o ho x hx => by
        obtain ⟨r, hr, rfl⟩ := List.mem_map.1 ho
        obtain ⟨i, hi, rfl⟩ := List.mem_iff_getElem.1 hr
        exact HNJ.out i (by have := HL.out; omega) hi x hx)
      have OU2 := Lib.hid (OU.out _ KR.out (by have := HL.out; omega))
      obtain ⟨E, hE⟩ : ∃ E, E = opsE (rs.map (·.1)) := ⟨_, rfl⟩
      obtain ⟨T, hT⟩ : ∃ T : ByteArray, T = ⟨(opsT (rs.map (·.1))).toArray⟩ := ⟨_, rfl⟩
      have WR := Lib.hid (fun w' (k : Kept w w') (p' : Option Addr) (c' : Nat) (hr : OpR (fun _ => True) w' p' rs) => show Calls Tryz.prog 10 #[.slice p' j c'] w' fun e w'' => e = .returned (.tuple #[.string T, .int .i64 E]) ∧ Kept w' w'' from by
        have := OpsWrite_any rs p' c' w' hr (HF.out.kept k) (HF.out.kept k).1 FWW.out.writes (by have := HL.out; omega) 400000 FWW.out.lineV (by decide) E hE T hT
        rwa [← HL.out] at this)
      have HE := Lib.hid hE
      have HT := Lib.hid hT
      clear hE hT OU
      by_cases he0 : E = 0
      · subst he0
        have hback := FWW.out.back HE.out.symm HNN.out
        have PA := Lib.hid (fun w' (k : Kept w w') => show Calls Tryz.prog 12 #[.string T] w' fun e w'' => ∃ p3 c3 rs3, e = .returned (.tuple #[.slice p3 j c3, .int .i64 0]) ∧ Kept w' w'' ∧ rs3.map (·.1) = rs.map (·.1) ∧ rs3.length = j ∧ OpR (fun _ => True) w'' p3 rs3 from by
          refine (OpsParse_any T w' (by rw [HT.out]; show (opsT (rs.map (·.1))).toArray.size ≤ _; have := hback.1; simpa using (by omega : (opsT (rs.map (·.1))).length ≤ 4294967295)) (HF.out.kept k).1 (0, rs.map (·.1)) (by rw [HT.out]; exact hback.2.symm)).mono ?_
          rintro e w'' ⟨p3, c3, rs3, rfl, hk, hm, hr⟩
          have hl : (rs.map (·.1)).length = j := by rw [List.length_map, ← HL.out]
          exact ⟨p3, c3, rs3, by simp only [hl], hk, hm, (by have h9 := congrArg List.length hm; rw [List.length_map] at h9; exact h9.trans hl), hr.any⟩)
        have TH := Lib.hid (fun (rs3 : ORow) (p3 : Option Addr) (c3 : Nat) w' (hr : OpR (fun _ => True) w' p3 rs3) (hl : rs3.length = j) => show Calls Tryz.prog 14 #[.slice p3 j c3] w' fun e w'' => ∃ p4 c4, e = .returned (.slice p4 j c4) ∧ Kept w' w'' ∧ OpR (fun _ => True) w'' p4 rs3 from by
          have h0 := opsTheirs_any rs3 p3 c3 w' hr (by omega)
          rw [hl] at h0
          refine h0.mono ?_
          rintro e w'' ⟨p4, c4, rfl, hk, hr4, -⟩
          exact ⟨p4, c4, by rw [hl], hk, hr4⟩)
        have SA := Lib.hid (fun (rs3 : ORow) (p4 : Option Addr) (c4 : Nat) w' (k : Kept w w') (hr : OpR (fun _ => True) w' p4 rs3) (hm : rs3.map (·.1) = rs.map (·.1)) (hl : rs3.length = j) => show Calls Tryz.prog 13 #[.slice p4 j c4, .slice p j c] w' fun e w'' => e = .returned (.bool true) ∧ Kept w' w'' from by
          have h0 := SameP_any rs3 rs p4 p c4 c w' hr (HR.out.kept k) hm (by omega)
          rwa [hl, ← HL.out] at h0)
        clear hback
        go_wp2_with fail
        (with_reducible refine OU2.out.mono ?_)
        rintro e w3 ⟨p3, c3, rfl, hk3, hr3, -, -⟩
        have K3 := Lib.hid (KR.out.trans hk3)
        have R3 := Lib.hid hr3
        clear hk3 hr3 OU2
        go_wp2_with fail
        (with_reducible refine (WR.out _ K3.out _ _ R3.out).mono ?_)
        rintro e w4 ⟨rfl, hk4⟩
        have K4 := Lib.hid (K3.out.trans hk4)
        clear hk4 WR R3
        go_wp2_with fail
        (with_reducible refine (PA.out _ K4.out).mono ?_)
        rintro e w5 ⟨p5, c5, rs5, rfl, hk5, hm5, hl5, hr5⟩
        have K5 := Lib.hid (K4.out.trans hk5)
        have M5 := Lib.hid hm5
        have L5 := Lib.hid hl5
        have R5 := Lib.hid hr5
        clear hk5 hm5 hl5 hr5 PA
        go_wp2_with fail
        (with_reducible refine (TH.out _ _ _ _ R5.out L5.out).mono ?_)
        rintro e w6 ⟨p6, c6, rfl, hk6, hr6⟩
        have K6 := Lib.hid (K5.out.trans hk6)
        have R6 := Lib.hid hr6
        clear hk6 hr6 TH
        go_wp2_with fail
        (with_reducible refine (SA.out _ _ _ _ K6.out R6.out M5.out L5.out).mono ?_)
        rintro e w7 ⟨rfl, hk7⟩
        have K7 := Lib.hid (K6.out.trans hk7)
        clear hk7 SA
        go_wp2_with fail
        go_ret
        exact ⟨rfl, K7.out⟩
      · have hne : (E != 0) = true := by simpa using he0
        obtain rfl : T = ⟨#[]⟩ := by rw [HT.out]; unfold opsT; rw [if_pos (by rw [← HE.out]; exact he0)]
        clear he0
        go_wp2_with fail
        (with_reducible refine OU2.out.mono ?_)
        rintro e w3 ⟨p3, c3, rfl, hk3, hr3, -, -⟩
        have K3 := Lib.hid (KR.out.trans hk3)
        have R3 := Lib.hid hr3
        clear hk3 hr3 OU2
        go_wp2_with fail
        (with_reducible refine (WR.out _ K3.out _ _ R3.out).mono ?_)
        rintro e w4 ⟨rfl, hk4⟩
        have K4 := Lib.hid (K3.out.trans hk4)
        clear hk4 WR R3
        go_wp2_with fail
        go_ret
        exact ⟨rfl, K4.out⟩

end Go.Proofs.YtkpagahnmbchjaaGreatDoor
