/-
  The reference of package xref: Merge.
-/
import Derived.Test.YtoablpaehhjchaaGreatDoorXrfScan
import Derived.Test.YtoablpaehhjchaaGreatDoorXrfConcat
import Derived.Test.YtoablpaehhjchaaGreatDoorXrfThem
import Derived.Test.YtoablpaehhjchaaGreatDoorXrfMerge
namespace Go.Proofs.YtoablpaehhjchaaGreatDoor
open Go.RowKit Rx
set_option linter.unusedSimpArgs false
set_option linter.unusedVariables false

set_option maxRecDepth 100000 in
theorem wpList_app_rslice {ops : Array Oper} {rest : List Oper} {o : Oper} {a : Act} {Q : Exit → Act → World → Prop} (hgd : o.guard = none) (s x : Operand)
    (ho : o.op = .call { callee := .builtin .append, args := #[s, x], argTypes := #[28, 28] })
    {W : World} {B : Nat} {v : Value} {l : List Xent} (hown : Ents 72 W B v l) (hs : a.eval s = v) (p : Option Addr) (es : List Xent) (c : Nat) (hes : EntR W W.heap.size p es) (hnil : p = none → c = 0) 
    (hx : a.eval x = .slice p es.length c) (hB : B ≤ W.heap.size) (hlen : l.length + es.length ≤ 1099511627776)
    (h : ∀ v' w', Ents 72 w' B v' (l ++ es) → W.grownBy w' v.ownBlock → wpList Tryz.prog ops Q rest (a.put o.dst v') w') :
    wpList Tryz.prog ops Q (o :: rest) a W := by
  obtain ⟨i0, hi, hz0, hz1, hz2⟩ := info_parts info_rent
  cases p with
  | none =>
    have he : es = [] := by
      cases es with
      | nil => rfl
      | cons e r =>
        obtain ⟨k, o, hp, _⟩ := hes 0 (by simp)
        cases hp
    subst he
    have hc := hnil rfl
    subst hc
    refine wpList_append_own_none hgd s x 28 ho B 72 i0 4 Tryz.underlying28 hi v l.length (entC l) hs hown hx ?_
    exact h v W (by rw [List.append_nil]; exact hown) ⟨rfl, rfl, rfl, Nat.le_refl _, fun _ _ _ => rfl⟩
  | some ad =>
    have hcs : ∀ j u, (entC es)[j]? = some u → W.cell? (ad.add j) = some u := by
      cases es with
      | nil => intro j u hj; simp [entC] at hj
      | cons e r =>
        obtain ⟨k, of, hp, -⟩ := hes 0 (by simp)
        injection hp with hp
        subst hp
        exact entR_cells hes
    refine wpList_append_own _ hgd s x 28 ho B 72 i0 _ 4 32 Tryz.underlying28 hi hz0 hz1 hz2 rfl (by decide) v l.length (entC l) hs hown ad es.length c (entC es) hx (by rw [entC_len]; omega)
      hcs entC_one_cell (by unfold maxLen; omega) (by omega) hB ?_
    intro v' w' h1 h2 _
    refine h v' w' ?_ h2
    unfold Ents
    rw [List.length_append, entC_app]
    exact h1

theorem rent_one {w : World} {k : Nat} {e : Xent} {t : TypeId} (h : Blk w k #[.int .i64 e.n, .int .i64 e.off, .int .i64 e.gen, .bool e.used] t) : EntR w w.heap.size (some ⟨k, 0, none⟩) [e] := fun i hi => by
  have hi : i < 1 := hi
  obtain rfl : i = 0 := by omega
  refine ⟨k, 0, rfl, h.lt, ?_, ?_, ?_, ?_⟩
  all_goals (rw [h.cell]; rfl)

set_option maxRecDepth 100000 in
set_option maxHeartbeats 16000000 in
theorem rMerge_any (a b : List Xent) (pa pb : Option Addr) (ca cb : Nat) (w : World) (ha : Sl w pa ca a) (hb : Sl w pb cb b) (hs : a.length + b.length ≤ 1048576) (hwf : ∀ e ∈ a ++ b, Wf e) :
    Calls Tryz.prog 12 #[.slice pa a.length ca, .slice pb b.length cb] w fun e w' => ∃ p c m, e = .returned (.slice p m.length c) ∧ IsM (a ++ b) m ∧ EntR w' w'.heap.size p m ∧ Kept w w' := by
  have SA := Lib.hid ha
  have SB := Lib.hid hb
  have WF := Lib.hid hwf
  have A0 := Lib.hid (show Ents 72 (w.alloc (.cells #[] 72)) w.heap.size (.slice (some ⟨w.heap.size, 0, none⟩) 0 0) [] from World.ownsRow_made w #[] 0 (Nat.le_refl _) (Nat.zero_le _) rfl)
  have K0 := Lib.hid (show Kept w (w.alloc (.cells #[] 72)) from (Kept.refl w).allocO _)
  have SA0 := Lib.hid (ha.see K0.out)
  have z0 := Below.size K0.out
  clear ha hb hwf
  go_enter Tryz.func12, Tryz.ntmps12
  go_wp2_with (first
    | (at_builtin; refine wpList_app_rslice (by rfl) _ _ (by rfl) A0.out (by rfl) pa a ca SA0.out.1 SA0.out.2.1 (by rfl) z0 (by simp; omega) ?_; intro v1 w1 ho1 hg1; have O1 := Lib.hid ho1; have K1 := Lib.hid (show Kept w w1 from Below.grown K0.out hg1 z0 (fun y hy => (A0.out.lt y hy).1)); have SB1 := Lib.hid (SB.out.see K1.out); have z1 := Below.size K1.out; clear ho1 hg1)
    | (at_builtin; refine wpList_app_rslice (by rfl) _ _ (by rfl) O1.out (by rfl) pb b cb SB1.out.1 SB1.out.2.1 (by rfl) z1 (by simp; omega) ?_; intro v2 w2 ho2 hg2; obtain ⟨p2, c2, rfl, hS2⟩ := ho2.sl; have S2 := Lib.hid hS2; have O2 := Lib.hid ho2; have K2 := Lib.hid (show Kept w w2 from Below.grown K1.out hg2 z1 (fun y hy => (O1.out.lt y hy).1)); clear ho2 hg2 hS2))
  obtain ⟨m, hm⟩ := isM_ex (a ++ b)
  obtain ⟨all, hall⟩ : ∃ all, all = a ++ b := ⟨_, rfl⟩
  have hN : a.length + b.length = all.length := by rw [hall, List.length_append]
  have S3 := Lib.hid (show Sl w2 p2 c2 all from by have := S2.out; rwa [List.nil_append, ← hall] at this)
  rw [← hall] at hm WF
  have HALL := Lib.hid hall
  have HM := Lib.hid hm
  have hml := isM_len hm
  have hal : all.length ≤ 1048576 := by omega
  have HW := Lib.hid (show ∀ q (h : q < all.length), -9223372036854775808 ≤ all[q].n ∧ all[q].n ≤ 9223372036854775807 from fun q h => WF.out _ (List.getElem_mem h))
  rw [hN]
  have hz2 := Below.size K2.out
  clear hN hall hm S2 O2 SB1 K1 O1 A0 SA0 K0 z0 z1 SA SB WF hs
  go_loopg [6] (m.length + 1) (fun x ov wr => ∃ (j : Nat) (vv : Value), vv = ov ∧ x = m.length + 1 - j ∧ j ≤ m.length ∧ Ents 72 wr w2.heap.size vv (m.take j) ∧ Kept w2 wr)
  case atStart => exact ⟨0, _, rfl, rfl, Nat.zero_le _, World.ownsRow_nil _ _ _ _, Kept.refl w2⟩
  case round =>
    obtain ⟨j, vv, rfl, hx, hj, ho, hk⟩ := hrel
    have KR := Lib.hid hk
    have OR := Lib.hid ho
    have htl : (m.take j).length = j := by rw [List.length_take]; omega
    obtain ⟨po, co, rfl, hSO⟩ := ho.sl
    have SO := Lib.hid hSO
    rw [htl] at OR ⊢
    clear ho hk hSO
    go_wp2_with fail
    go_loopg [7, 8] (all.length + 1) (fun x kv iv wr2 => ∃ (i : Nat) (k : Int), kv = .int .i64 k ∧ x = all.length + 1 - i ∧ i ≤ all.length ∧ iv = .int .i64 i ∧ Hid (Scan all (lastO m j) i k) ∧ Kept wr wr2)
    case atStart => exact ⟨0, -1, rfl, rfl, Nat.zero_le _, rfl, Lib.hid (scan_start _ _), Kept.refl wr⟩
    case round =>
      obtain ⟨i, k, rfl, hxi, hi, rfl, HSC, hk⟩ := hrel
      have KI := Lib.hid hk
      clear hk
      by_cases hlt : i < all.length
      · have j1 : (i : Int) < (all.length : Int) := by omega
        obtain ⟨kb, o, hp, -, c0, -⟩ := (S3.out.see (KR.out.trans KI.out)).1 i hlt
        subst hp
        obtain ⟨en, hen⟩ : ∃ en, en = all[i].n := ⟨_, rfl⟩
        rw [← hen] at c0
        by_cases hj0 : j = 0
        · subst hj0
          have HAB : Above (lastO m 0) all[i].n := trivial
          rcases scan_k HSC.out with rfl | ⟨q, hq, rfl⟩
          · have HN := Lib.hid (scan_take HSC.out hlt HAB (.inl rfl))
            clear hen
            clear HSC HW OR htl
            go_wp2_with fail
            go_quiet (fail)
            go_wp2_with fail
            go_roundg (all.length + 1 - (i + 1))
            case measure => omega
            case rel => exact ⟨i + 1, (i : Int), rfl, rfl, by omega, by go_num, HN, KI.out.drewN _⟩
          · obtain ⟨kq, oq, hpq, -, d0, -⟩ := (S3.out.see (KR.out.trans KI.out)).1 q hq
            injection hpq with hpq
            injection hpq with e1 e2
            subst e1 e2
            have hqi : (q : Int) < (all.length : Int) := by omega
            have hq0 : ¬ ((q : Int) < 0) := by omega
            have hq1 : decide ((q : Int) < 0) = false := decide_eq_false hq0
            obtain ⟨qn, hqn⟩ : ∃ qn, qn = all[q].n := ⟨_, rfl⟩
            rw [← hqn] at d0
            by_cases hlq : en < qn
            · have HN := Lib.hid (scan_take HSC.out hlt HAB (.inr ⟨q, hq, rfl, by rw [← hqn, ← hen]; exact hlq⟩))
              have hd9 : decide (en < qn) = true := decide_eq_true hlq
              clear hqn hen
              clear HSC HW OR htl
              go_wp2_with fail
              go_quiet (fail)
              go_wp2_with fail
              go_roundg (all.length + 1 - (i + 1))
              case measure => omega
              case rel => exact ⟨i + 1, (i : Int), rfl, rfl, by omega, by go_num, HN, KI.out.drewN _⟩
            · have HN := Lib.hid (scan_skip HSC.out hlt (.inr ⟨q, hq, rfl, by rw [← hqn, ← hen]; omega⟩))
              have hd9 : decide (en < qn) = false := decide_eq_false hlq
              clear hqn hen
              clear HSC HW OR htl
              go_wp2_with fail
              go_quiet (fail)
              go_wp2_with fail
              go_roundg (all.length + 1 - (i + 1))
              case measure => omega
              case rel => exact ⟨i + 1, _, rfl, rfl, by omega, by go_num, HN, KI.out.drewN _⟩
        · obtain ⟨j', rfl⟩ : ∃ j', j = j' + 1 := ⟨j - 1, by omega⟩
          have hjm : j' < m.length := by omega
          obtain ⟨ko, oo, hpo, -, b0, -⟩ := (SO.out.see KI.out).1 j' (by rw [htl]; omega)
          subst hpo
          obtain ⟨lv, hlv⟩ : ∃ lv, lv = m[j'].n := ⟨_, rfl⟩
          rw [List.getElem_take, ← hlv] at b0
          have HLO : lastO m (j' + 1) = some lv := by rw [lastO_at m j' hjm, hlv]
          have e5 : ((j' + 1 : Nat) : Int) = (j' : Int) + 1 := rfl
          have jj0 : (((j' : Int) + 1) == 0) = false := by simpa using (show ¬ ((j' : Int) + 1 = 0) by omega)
          have jj1 : (j' : Int) < (j' : Int) + 1 := by omega
          have jj2 : (j' : Int) ≤ 1048576 := by omega
          have jj3 : IntKind.i64.wrap (j' : Int) = (j' : Int) := IntWalk.i64_in _ (by omega)
          by_cases hab : lv < en
          · have HAB : Above (lastO m (j' + 1)) all[i].n := by rw [HLO, ← hen]; exact hab
            have hd8 : decide (lv < en) = true := decide_eq_true hab
            clear hlv HLO
            rcases scan_k HSC.out with rfl | ⟨q, hq, rfl⟩
            · have HN := Lib.hid (scan_take HSC.out hlt HAB (.inl rfl))
              clear hen
              clear HSC HW OR htl
              go_wp2_with fail
              go_quiet (fail)
              go_wp2_with fail
              go_roundg (all.length + 1 - (i + 1))
              case measure => omega
              case rel => exact ⟨i + 1, (i : Int), rfl, rfl, by omega, by go_num, HN, KI.out.drewN _⟩
            · obtain ⟨kq, oq, hpq, -, d0, -⟩ := (S3.out.see (KR.out.trans KI.out)).1 q hq
              injection hpq with hpq
              injection hpq with e1 e2
              subst e1 e2
              have hqi : (q : Int) < (all.length : Int) := by omega
              have hq0 : ¬ ((q : Int) < 0) := by omega
              have hq1 : decide ((q : Int) < 0) = false := decide_eq_false hq0
              obtain ⟨qn, hqn⟩ : ∃ qn, qn = all[q].n := ⟨_, rfl⟩
              rw [← hqn] at d0
              by_cases hlq : en < qn
              · have HN := Lib.hid (scan_take HSC.out hlt HAB (.inr ⟨q, hq, rfl, by rw [← hqn, ← hen]; exact hlq⟩))
                have hd9 : decide (en < qn) = true := decide_eq_true hlq
                clear hqn hen
                clear HSC HW OR htl
                go_wp2_with fail
                go_quiet (fail)
                go_wp2_with fail
                go_roundg (all.length + 1 - (i + 1))
                case measure => omega
                case rel => exact ⟨i + 1, (i : Int), rfl, rfl, by omega, by go_num, HN, KI.out.drewN _⟩
              · have HN := Lib.hid (scan_skip HSC.out hlt (.inr ⟨q, hq, rfl, by rw [← hqn, ← hen]; omega⟩))
                have hd9 : decide (en < qn) = false := decide_eq_false hlq
                clear hqn hen
                clear HSC HW OR htl
                go_wp2_with fail
                go_quiet (fail)
                go_wp2_with fail
                go_roundg (all.length + 1 - (i + 1))
                case measure => omega
                case rel => exact ⟨i + 1, _, rfl, rfl, by omega, by go_num, HN, KI.out.drewN _⟩
          · have HAB : ¬ Above (lastO m (j' + 1)) all[i].n := by rw [HLO, ← hen]; exact hab
            have hd8 : decide (lv < en) = false := decide_eq_false hab
            have HN := Lib.hid (scan_skip HSC.out hlt (.inl HAB))
            clear hlv HLO hen
            clear HSC HW OR htl
            go_wp2_with fail
            go_quiet (fail)
            go_wp2_with fail
            go_roundg (all.length + 1 - (i + 1))
            case measure => omega
            case rel => exact ⟨i + 1, _, rfl, rfl, by omega, by go_num, HN, KI.out.drewN _⟩
      · have j1 : ¬ (i : Int) < (all.length : Int) := by omega
        obtain rfl : i = all.length := by omega
        rcases scan_k HSC.out with rfl | ⟨q, hq, rfl⟩
        · have hjm := scan_none HM.out hj HSC.out
          subst hjm
          have O9 := Lib.hid (show EntR wr wr.heap.size po m from by have := (SO.out.see KI.out).1; rwa [List.take_length] at this)
          have W9 := Lib.hid ((K2.out.trans KR.out).trans KI.out)
          clear HSC HW htl
          go_wp2_with fail
          go_ret
          exact ⟨po, co, m, rfl, by rw [← HALL.out]; exact HM.out, O9.out, W9.out⟩
        · obtain ⟨hjm, hme⟩ := scan_some HM.out hj hq HSC.out
          obtain ⟨kq, oq, hpq, -, d0, d1, d2, d3⟩ := (S3.out.see (KR.out.trans KI.out)).1 q hq
          subst hpq
          have hqi : (q : Int) < (all.length : Int) := by omega
          have hq0 : ¬ ((q : Int) < 0) := by omega
          obtain ⟨t, ht⟩ : ∃ t, t = all[q] := ⟨_, rfl⟩
          have htk : m.take (j + 1) = m.take j ++ [t] := by rw [List.take_succ_eq_append_getElem hjm, hme, ht]
          rw [← ht] at d0 d1 d2 d3
          have HTK := Lib.hid htk
          have OI := Lib.hid (OR.out.kept KI.out)
          have KA := Lib.hid (show Kept wr (wr.alloc (.cells #[.int .i64 t.n, .int .i64 t.off, .int .i64 t.gen, .bool t.used] 72)) from (Kept.refl wr).allocO _)
          have OA := Lib.hid (OI.out.kept KA.out)
          have EA := Lib.hid (rent_one (Blk.fresh wr #[.int .i64 t.n, .int .i64 t.off, .int .i64 t.gen, .bool t.used] 72))
          have zA := Nat.le_trans (Below.size KR.out) (Nat.le_trans (Below.size KI.out) (Below.size KA.out))
          have hjl : (m.take j).length + 1 ≤ 1099511627776 := by omega
          clear HSC HW ht hme htk htl
          go_wp2_with (at_builtin; refine wpList_app_rslice (by rfl) _ _ (by rfl) OA.out (by rfl) (some ⟨wr.heap.size, 0, none⟩) [t] 1 EA.out (fun h => by cases h) (by rfl) zA hjl ?_; intro v8 w8 ho8 hg8; have O8 := Lib.hid ho8; have K8 := Lib.hid (show Kept w2 w8 from Below.grown ((KR.out.trans KI.out).trans KA.out) hg8 zA (fun y hy => (OA.out.lt y hy).1)); clear ho8 hg8)
          go_roundg (m.length + 1 - (j + 1))
          case measure => omega
          case rel => exact ⟨j + 1, v8, rfl, rfl, hjm, by have := O8.out; rwa [← HTK.out] at this, K8.out⟩

end Go.Proofs.YtoablpaehhjchaaGreatDoor
