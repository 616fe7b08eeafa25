/-
  What any bytes tell.
-/
import Derived.Test.YtkobcgemllcfoaaDoorInfRefRaw
import Derived.Test.YtkobcgemllcfoaaDoorInflateBehindWalk
namespace Go.Proofs.YtkobcgemllcfoaaDoor
open Go.RowKit Ix
set_option linter.unusedSimpArgs false
set_option linter.unusedVariables false

theorem and_32 {y : Nat} (h : y < 256) : bits BinOp.and IntKind.u8 (y : Int) 32 = ((32 * (y / 32 % 2) : Nat) : Int) := by
  have key : (List.range 256).all (fun y => bits BinOp.and IntKind.u8 (y : Int) 32 == ((32 * (y / 32 % 2) : Nat) : Int)) = true := by kernel_rfl
  exact beq_iff_eq.1 (List.all_eq_true.1 key y (List.mem_range.2 h))
def zsum (l : List UInt8) (i : Nat) : Nat := (l.take i).foldl (fun n v => n * 256 + v.toNat) 0
theorem zsum_succ (l : List UInt8) (i : Nat) (h : i < l.length) : zsum l (i + 1) = zsum l i * 256 + l[i].toNat := by
  unfold zsum
  rw [List.take_succ_eq_append_getElem h, List.foldl_append]; rfl
theorem zsum_lt (l : List UInt8) : ∀ i, i ≤ l.length → zsum l i < 256 ^ i
  | 0, _ => by simp [zsum]
  | i + 1, h => by
    have ih := zsum_lt l i (by omega)
    have hb := l[i].toNat_lt
    rw [zsum_succ l i (by omega), Nat.pow_succ]
    omega
theorem zsum_24 (l : List UInt8) (i : Nat) (h : i ≤ l.length) (hi : i ≤ 3) : zsum l i < 16777216 := Nat.lt_of_lt_of_le (zsum_lt l i h) (Nat.pow_le_pow_right (by decide) hi)

set_option maxRecDepth 100000 in
set_option maxHeartbeats 4000000 in
theorem refZlib_any (B : List UInt8) (p : Option Addr) (c : Nat) (w : World) (h : ByR w w.heap.size p B) (hc : B.length ≤ c) (hB : B.length ≤ 1099511627776) :
    Calls Tryd.prog 24 #[.slice p B.length c] w (RawA w (zlibV B)) := by
  by_cases h2 : B.length < 2
  · have HZ := Lib.hid (show zlibV B = .error 4 by unfold zlibV; rw [if_pos h2])
    have i2 : (B.length : Int) < 2 := by omega
    clear h
    go_enter Tryd.func24, Tryd.ntmps24
    go_wp2_with fail
    refine bodyPost_ret (v := .tuple #[.slice none 0 0, .int .i64 0, .int .i64 4]) (by simp [results, Tryd.results24, go_sem]) rfl ?_
    unfold RawA
    rw [HZ.out]
    exact ⟨Kept.refl _, rfl⟩
  · have i2 : ¬ (B.length : Int) < 2 := by omega
    have i0 : (0 : Int) < (B.length : Int) := by omega
    have i1 : (1 : Int) < (B.length : Int) := by omega
    obtain ⟨k, o, hp, hk, hc0⟩ := h 0 (by omega)
    subst hp
    have HB := Lib.hid h
    have hc1 : w.cell? ⟨k, o + 1, none⟩ = some (.int .u8 ((B.getD 1 0).toNat : Int)) := by
      obtain ⟨k', o', hp, -, hc⟩ := h 1 (by omega)
      injection hp with hp
      injection hp with e1 e2
      subst e1 e2
      rw [hc]; simp [List.getD, show 1 < B.length by omega]
    have hc0' : w.cell? ⟨k, o, none⟩ = some (.int .u8 ((B.getD 0 0).toNat : Int)) := by
      rw [Nat.add_zero] at hc0
      rw [hc0]; simp [List.getD, show 0 < B.length by omega]
    clear hc0 h
    have j0 : 0 < B.length := by omega
    have j1 : 1 < B.length := by omega
    obtain ⟨X, hX⟩ : ∃ X, X = B.getD 0 0 := ⟨_, rfl⟩
    obtain ⟨Y, hY⟩ : ∃ Y, Y = B.getD 1 0 := ⟨_, rfl⟩
    have HXY := Lib.hid (And.intro hX hY)
    rw [← hX] at hc0'
    rw [← hY] at hc1
    have hx256 := X.toNat_lt
    have hy256 := Y.toNat_lt
    obtain ⟨x, hx⟩ : ∃ x, x = X.toNat := ⟨_, rfl⟩
    obtain ⟨y, hy⟩ : ∃ y, y = Y.toNat := ⟨_, rfl⟩
    have HHD := Lib.hid (show headV (B.getD 0 0) (B.getD 1 0) = (x % 16 == 8 && (decide (x / 16 ≤ 7) && ((x * 256 + y) % 31 == 0 && y / 32 % 2 == 0))) by
      rw [← hX, ← hY, hx, hy]; rfl)
    rw [← hx] at hc0' hx256
    rw [← hy] at hc1 hy256
    have hand := and_32 hy256
    have hxb : x < 256 := hx256
    have hyb : y < 256 := hy256
    have HBAD := Lib.hid (show headV (B.getD 0 0) (B.getD 1 0) = false → zlibV B = .error 3 from fun hh => by unfold zlibV; rw [if_neg h2, if_pos hh])
    clear hx hy hX hY hx256 hy256
    obtain ⟨u, hu⟩ : ∃ u, u = y / 32 % 2 := ⟨_, rfl⟩
    rw [← hu] at hand HHD
    have HU := Lib.hid hu
    have hu2 : u < 2 := by omega
    clear hu
    obtain ⟨ra, hra⟩ : ∃ ra, ra = x % 16 := ⟨_, rfl⟩
    obtain ⟨rd, hrd⟩ : ∃ rd, rd = x / 16 := ⟨_, rfl⟩
    obtain ⟨rr, hrr⟩ : ∃ rr, rr = (x * 256 + y) % 31 := ⟨_, rfl⟩
    have m1 : (x : Int).tmod 16 = (ra : Int) := by rw [Int.tmod_eq_emod_of_nonneg (by omega)]; omega
    have m2 : (x : Int).tdiv 16 = (rd : Int) := by rw [Int.tdiv_eq_ediv_of_nonneg (by omega)]; omega
    have m4 : (x : Int) % 16 = (ra : Int) := by omega
    have m5 : (x : Int) / 16 = (rd : Int) := by omega
    obtain ⟨p1, hp1⟩ : ∃ p1, p1 = x * 256 := ⟨_, rfl⟩
    obtain ⟨q1, hq1⟩ : ∃ q1, q1 = p1 + y := ⟨_, rfl⟩
    have m6 : (x : Int) * 256 = (p1 : Int) := by omega
    have m7 : (p1 : Int) + (y : Int) = (q1 : Int) := by omega
    have m3 : (q1 : Int).tmod 31 = (rr : Int) := by rw [Int.tmod_eq_emod_of_nonneg (by omega)]; omega
    have m8 : (q1 : Int) % 31 = (rr : Int) := by omega
    have m9 : IntKind.u8.wrap (rd : Int) = (rd : Int) := by show (rd : Int) % 256 = _; omega
    have m10 : IntKind.i64.wrap (p1 : Int) = (p1 : Int) := IntWalk.i64_in _ (by omega)
    have m11 : IntKind.i64.wrap (q1 : Int) = (q1 : Int) := IntWalk.i64_in _ (by omega)
    have m12 : IntKind.i64.wrap (rr : Int) = (rr : Int) := IntWalk.i64_in _ (by omega)
    have m13 : IntKind.i64.wrap (x : Int) = (x : Int) := IntWalk.i64_in _ (by omega)
    have m14 : IntKind.i64.wrap (y : Int) = (y : Int) := IntWalk.i64_in _ (by omega)
    rw [← hra, ← hrd, ← hrr] at HHD
    clear hra hrd hrr hp1 hq1
    by_cases a0 : ra = 8
    rotate_left
    · skip
      have f0 : ((ra : Int) != 8) = true := by rw [bne_iff_ne]; omega
      have HZ := Lib.hid (HBAD.out (by rw [HHD.out]; rw [show (ra == 8) = false by rw [beq_eq_false_iff_ne]; exact a0]; rfl))
      go_enter Tryd.func24, Tryd.ntmps24
      go_wp2_with fail
      go_quiet (fail)
      go_wp2_with fail
      refine bodyPost_ret (v := .tuple #[.slice none 0 0, .int .i64 0, .int .i64 3]) (by simp [results, Tryd.results24, go_sem]) rfl ?_
      unfold RawA
      rw [HZ.out]
      exact ⟨(Kept.refl _).drewN _, rfl⟩
    have f0 : ((ra : Int) != 8) = false := by rw [bne_eq_false_iff_eq]; omega
    have f0p : (ra : Int) = 8 := by omega
    by_cases a1 : rd ≤ 7
    rotate_left
    · skip
      have f1 : (7 : Int) < (rd : Int) := by omega
      have f1d : decide ((7 : Int) < (rd : Int)) = true := decide_eq_true f1
      have HZ := Lib.hid (HBAD.out (by rw [HHD.out]; rw [show decide (rd ≤ 7) = false from decide_eq_false a1, Bool.false_and, Bool.and_false]))
      go_enter Tryd.func24, Tryd.ntmps24
      go_wp2_with fail
      go_quiet (fail)
      go_wp2_with fail
      refine bodyPost_ret (v := .tuple #[.slice none 0 0, .int .i64 0, .int .i64 3]) (by simp [results, Tryd.results24, go_sem]) rfl ?_
      unfold RawA
      rw [HZ.out]
      exact ⟨(Kept.refl _).drewN _, rfl⟩
    have f1 : ¬ (7 : Int) < (rd : Int) := by omega
    have f1d : decide ((7 : Int) < (rd : Int)) = false := decide_eq_false f1
    by_cases a2 : rr = 0
    rotate_left
    · skip
      have f2 : ((rr : Int) != 0) = true := by rw [bne_iff_ne]; omega
      have HZ := Lib.hid (HBAD.out (by rw [HHD.out]; rw [show (rr == 0) = false by rw [beq_eq_false_iff_ne]; exact a2, Bool.false_and, Bool.and_false, Bool.and_false]))
      go_enter Tryd.func24, Tryd.ntmps24
      go_wp2_with fail
      go_quiet (fail)
      go_wp2_with fail
      refine bodyPost_ret (v := .tuple #[.slice none 0 0, .int .i64 0, .int .i64 3]) (by simp [results, Tryd.results24, go_sem]) rfl ?_
      unfold RawA
      rw [HZ.out]
      exact ⟨(Kept.refl _).drewN _, rfl⟩
    have f2 : ((rr : Int) != 0) = false := by rw [bne_eq_false_iff_eq]; omega
    have f2p : (rr : Int) = 0 := by omega
    by_cases a3 : u = 0
    rotate_left
    · skip
      have f3 : (((32 * u : Nat) : Int) != 0) = true := by rw [bne_iff_ne]; omega
      have f3' : (bits BinOp.and IntKind.u8 (y : Int) 32 != 0) = true := by rw [hand]; exact f3
      clear f3 hand
      have HZ := Lib.hid (HBAD.out (by rw [HHD.out]; rw [show (u == 0) = false by rw [beq_eq_false_iff_ne]; exact a3, Bool.and_false, Bool.and_false, Bool.and_false]))
      go_enter Tryd.func24, Tryd.ntmps24
      go_wp2_with fail
      go_quiet (fail)
      go_wp2_with fail
      refine bodyPost_ret (v := .tuple #[.slice none 0 0, .int .i64 0, .int .i64 3]) (by simp [results, Tryd.results24, go_sem]) rfl ?_
      unfold RawA
      rw [HZ.out]
      exact ⟨(Kept.refl _).drewN _, rfl⟩
    have f3 : (bits BinOp.and IntKind.u8 (y : Int) 32 != 0) = false := by rw [hand, a3]; rfl
    have f3p : bits BinOp.and IntKind.u8 (y : Int) 32 = 0 := by rw [hand, a3]; rfl
    have HZ0 := Lib.hid (show zlibV B = tailV B (rawV (B.drop 2)) by
      unfold zlibV
      rw [if_neg h2, if_neg (by rw [HHD.out, a0, a2, a3, decide_eq_true a1]; decide)])
    clear hand a0 a1 a2 a3
    have RA := Lib.hid (fun w' p' c' (hb : ByR w' w'.heap.size p' (B.drop 2)) => (show Calls Tryd.prog 22 #[.slice p' (B.length - 2) c'] w' (RawA w' (rawV (B.drop 2))) by
      have z := refRaw_any (B.drop 2) p' c' w' hb (by rw [List.length_drop]; omega)
      rwa [List.length_drop] at z))
    have l2 : (2 : Int) ≤ (B.length : Int) := by omega
    have l2n : 2 ≤ B.length := by omega
    by_cases hc2 : c = 2
    · subst hc2
      have hn0 : B.length = 2 := by omega
      have hd0 : B.drop 2 = [] := List.drop_eq_nil_of_le (by omega)
      have HZ := Lib.hid (show zlibV B = .error 4 by rw [HZ0.out, hd0]; rfl)
      have RA2 := Lib.hid (fun w' p' c' => (show Calls Tryd.prog 22 #[.slice p' 0 c'] w' (RawA w' (.error 4)) by
        have z := RA.out w' p' c' (by rw [hd0]; intro i hi; cases hi)
        rw [hd0, show B.length - 2 = 0 by omega] at z
        exact z))
      clear hd0 l2 l2n i0 i1 i2 j0 j1
      rw [hn0]
      clear hn0 hc h2
      go_enter Tryd.func24, Tryd.ntmps24
      go_wp2_with fail
      go_quiet (fail)
      go_wp2_with fail
      (with_reducible refine (RA2.out _ _ _).mono ?_)
      rintro e w3 ⟨hk3, he⟩
      obtain rfl : e = .returned (.tuple #[.slice none 0 0, .int .i64 0, .int .i64 4]) := he
      have K3 := Lib.hid (((Kept.refl w).drewN _).trans hk3)
      clear hk3
      go_wp2_with fail
      refine bodyPost_ret (v := .tuple #[.slice none 0 0, .int .i64 0, .int .i64 4]) (by simp [results, Tryd.results24, go_sem]) rfl ?_
      unfold RawA
      rw [HZ.out]
      exact ⟨K3.out, rfl⟩
    · have k2 : ¬ c - 2 = 0 := by omega
      have k3 : ¬ c = 2 := hc2
      have k4 : (2 : Int) ≤ (c : Int) := by omega
      have k5 : 2 ≤ c := by omega
      clear hc2
      go_enter Tryd.func24, Tryd.ntmps24
      go_wp2_with fail
      go_quiet (fail)
      have KQ := Lib.hid (show Kept w (w.drewN nq) from (Kept.refl w).drewN nq)
      go_wp2_with fail
      (with_reducible refine (RA.out _ _ _ (((HB.out.kept KQ.out (Nat.le_refl _))).drop 2)).mono ?_)
      rintro e w3 ⟨hk3, he⟩
      cases hr : rawV (B.drop 2) with
      | error k' =>
        rw [hr] at he
        obtain rfl : e = .returned (.tuple #[.slice none 0 0, .int .i64 0, .int .i64 k']) := he
        have hk0 := rawV_err hr
        have HZ := Lib.hid (show zlibV B = .error k' by rw [HZ0.out, hr]; rfl)
        have K3 := Lib.hid (KQ.out.trans hk3)
        clear hr hk3
        go_wp2_with fail
        refine bodyPost_ret (v := .tuple #[.slice none 0 0, .int .i64 0, .int .i64 k']) (by simp [results, Tryd.results24, go_sem]) rfl ?_
        unfold RawA
        rw [HZ.out]
        exact ⟨K3.out, rfl⟩
      | ok r =>
        obtain ⟨q, n⟩ := r
        rw [hr] at he
        obtain ⟨v, rfl, hov, hql⟩ := he
        have hn := rawGo_to _ _ _ _ _ _ hr
        rw [List.length_drop] at hn
        obtain ⟨pv, cv, rfl, hbv⟩ := hov.byR
        have OV := Lib.hid hov
        have HBV := Lib.hid hbv
        have HZ2 := Lib.hid (show zlibV B = if B.length - 2 - n < 4 then .error 4 else if sumV ((B.drop 2).drop n) = adler q then .ok (q, n + 6) else .error 3 by rw [HZ0.out, hr]; rfl)
        have K3 := Lib.hid (KQ.out.trans hk3)
        clear hr hov hbv hk3
        by_cases h4 : B.length - 2 - n < 4
        · have HZ := Lib.hid (HZ2.out.trans (if_pos h4))
          have g4 : (B.length : Int) < (n : Int) + 2 + 4 := by omega
          clear h4
          go_wp2_with fail
          refine bodyPost_ret (v := .tuple #[.slice none 0 0, .int .i64 0, .int .i64 4]) (by simp [results, Tryd.results24, go_sem]) rfl ?_
          unfold RawA
          rw [HZ.out]
          exact ⟨K3.out, rfl⟩
        · have HZ3 := Lib.hid (HZ2.out.trans (if_neg h4))
          have g4 : ¬ (B.length : Int) < (n : Int) + 2 + 4 := by omega
          have hn6 : n + 6 ≤ B.length := by omega
          obtain ⟨T, hT⟩ : ∃ T, T = (B.drop 2).drop n := ⟨_, rfl⟩
          have HT4 := Lib.hid (show 4 ≤ T.length by rw [hT, List.length_drop, List.length_drop]; omega)
          have HBT := Lib.hid (show ∀ i (hi : i < 4), T[i]'(by have := HT4.out; omega) = B[n + 2 + i]'(by omega) by
            intro i hi
            simp only [hT, List.getElem_drop]
            congr 1
            omega)
          rw [← hT] at HZ3
          have HB3 := Lib.hid (HB.out.kept K3.out (Nat.le_refl _))
          clear h4 hT
          go_wp2_with fail
          go_loopg [8, 9] 5 (fun m sv iv wr => ∃ i s : Nat, m = 5 - i ∧ i ≤ 4 ∧ sv = .int .u32 s ∧ Hid (s = zsum T i) ∧ iv = .int .i64 i ∧ wr = w3)
          case atStart => exact ⟨0, 0, rfl, Nat.zero_le _, rfl, Lib.hid rfl, rfl, rfl⟩
          case round =>
            obtain ⟨i, s, hm, hi, rfl, HS, rfl, rfl⟩ := hrel
            by_cases hlt : i < 4
            · obtain ⟨k', o', hp', hk', hci⟩ := HB3.out (n + 2 + i) (by omega)
              have e := Option.some.inj hp'
              have e1 : k' = k := (congrArg Addr.block e).symm
              have e2 : o' = o := (congrArg Addr.off e).symm
              subst e1 e2
              rw [← HBT.out i hlt] at hci
              have HSS := Lib.hid (zsum_succ T i (by have := HT4.out; omega))
              have hs24 : s < 16777216 := by rw [HS.out]; exact zsum_24 T i (by have := HT4.out; omega) (by omega)
              obtain ⟨z, hz⟩ : ∃ z, z = (T[i]'(by have := HT4.out; omega)).toNat := ⟨_, rfl⟩
              have hz256 : z < 256 := by rw [hz]; exact UInt8.toNat_lt _
              rw [← hz] at hci HSS
              have y1 : (n : Int) + 2 + (i : Int) < (B.length : Int) := by omega
              have y2 : n + 2 + i < B.length := by omega
              have y3 : (0 : Int) ≤ (n : Int) + 2 + (i : Int) := by omega
              have ig : (i : Int) < 4 := by omega
              clear hz hp' e
              go_wp2_with fail
              go_roundg (5 - (i + 1))
              case measure => omega
              case rel => exact ⟨i + 1, s * 256 + z, rfl, by omega, by go_num, Lib.hid (by rw [HSS.out, ← HS.out]), by go_num, rfl⟩
            · obtain rfl : i = 4 := by omega
              have AD := Lib.hid (refAdler_any q pv cv wr HBV.out (by omega))
              have HSV := Lib.hid (show sumV T = s from HS.out.symm)
              have hs32 : s < 4294967296 := by rw [HS.out]; exact zsum_lt T 4 HT4.out
              go_wp2_with fail
              (with_reducible refine AD.out.mono ?_)
              rintro e w4 ⟨rfl, hk4⟩
              have K4 := Lib.hid (K3.out.trans hk4)
              have OV4 := Lib.hid (OV.out.kept hk4)
              obtain ⟨A, hA⟩ : ∃ A, A = adler q := ⟨_, rfl⟩
              rw [← hA] at HZ3 ⊢
              clear hk4 hA
              by_cases hsum : s = A
              · have g0 : ((s : Int) != (A : Int)) = false := by rw [bne_eq_false_iff_eq]; omega
                have HZ := Lib.hid (HZ3.out.trans (if_pos (by rw [HSV.out]; exact hsum)))
                clear hsum
                go_wp2_with fail
                refine bodyPost_ret (v := .tuple #[.slice pv q.length cv, .int .i64 ((n : Int) + 2 + 4), .int .i64 0]) (by simp [results, Tryd.results24, go_sem]) rfl ?_
                unfold RawA
                rw [HZ.out]
                refine ⟨K4.out, _, ?_, OV4.out.low (by exact Nat.le_trans (Nat.le_refl _) (Below.size KQ.out)), hql⟩
                rw [show ((n : Int) + 2 + 4) = ((n + 6 : Nat) : Int) by omega]
              · have g0 : ((s : Int) != (A : Int)) = true := by rw [bne_iff_ne]; omega
                have HZ := Lib.hid (HZ3.out.trans (if_neg (by rw [HSV.out]; exact hsum)))
                clear hsum
                go_wp2_with fail
                refine bodyPost_ret (v := .tuple #[.slice none 0 0, .int .i64 0, .int .i64 3]) (by simp [results, Tryd.results24, go_sem]) rfl ?_
                unfold RawA
                rw [HZ.out]
                exact ⟨K4.out, rfl⟩

/-- What is told, how many bytes, and why not. -/
def ansV : Except Int (List UInt8 × Nat) → List UInt8 × Nat × Int
  | .error k => ([], 0, k)
  | .ok (o, n) => (o, n, 0)
theorem RawA.ans {w : World} {r : Except Int (List UInt8 × Nat)} {e : Ending} {w' : World} (h : RawA w r e w') : Kept w w' ∧ ∃ v, e = .returned (.tuple #[v, .int .i64 ((ansV r).2.1 : Nat), .int .i64 (ansV r).2.2]) ∧ Out w' w.heap.size v (ansV r).1 := by
  unfold RawA at h
  rcases r with k | ⟨o, n⟩
  · exact ⟨h.1, _, h.2, World.ownsRow_nil _ _ _ _⟩
  · obtain ⟨h1, v, h2, h3, -⟩ := h
    exact ⟨h1, v, h2, h3⟩

set_option maxRecDepth 100000 in
set_option maxHeartbeats 4000000 in
theorem InflateReads_walk (v0 : Value) (B : List UInt8) (w : World) (h0 : ByArg w v0 B) (hord : Ordd w) :
    Calls Tryd.prog 5 #[v0] w fun e w' => e = .returned (.bool true) ∧ Kept w w' := by
  obtain ⟨p, c, rfl, hb, hlc, hlm, -⟩ := h0
  have AW := Lib.hid (awake6_any w hord)
  have HORD := Lib.hid hord
  have RB := Lib.hid hb
  clear hb hord
  by_cases k1 : 400 < B.length
  · have e1 : (400 : Int) < (B.length : Int) := by omega
    go_enter Tryd.func5, Tryd.ntmps5
    go_wp2_with fail
    (with_reducible refine AW.out.mono ?_)
    rintro e w1 ⟨rfl, hk1⟩
    have K1 := Lib.hid hk1
    clear hk1
    go_wp2_with fail
    go_ret
    exact ⟨rfl, K1.out⟩
  have e1 : ¬ (400 : Int) < (B.length : Int) := by omega
  have RA := Lib.hid (fun w' (k : Kept w w') => Raw_any B p c w' (RB.out.kept k (Nat.le_refl _)) (by omega) (HORD.out.kept k))
  have RR := Lib.hid (fun w' (k : Kept w w') => refRaw_any B p c w' (RB.out.kept k (Nat.le_refl _)) (by omega))
  have ZA := Lib.hid (fun w' (k : Kept w w') => Zlib_any B p c w' (RB.out.kept k (Nat.le_refl _)) hlc (by omega) (HORD.out.kept k))
  have ZR := Lib.hid (fun w' (k : Kept w w') => refZlib_any B p c w' (RB.out.kept k (Nat.le_refl _)) hlc (by omega))
  have AN := Lib.hid (fun w r e w' (h : RawA w r e w') => h.ans)
  obtain ⟨o1, ho1⟩ : ∃ o1, o1 = (ansV (rawV B)).1 := ⟨_, rfl⟩
  obtain ⟨n1, hn1⟩ : ∃ n1, n1 = (ansV (rawV B)).2.1 := ⟨_, rfl⟩
  obtain ⟨f1, hf1⟩ : ∃ f1, f1 = (ansV (rawV B)).2.2 := ⟨_, rfl⟩
  obtain ⟨o2, ho2⟩ : ∃ o2, o2 = (ansV (zlibV B)).1 := ⟨_, rfl⟩
  obtain ⟨n2, hn2⟩ : ∃ n2, n2 = (ansV (zlibV B)).2.1 := ⟨_, rfl⟩
  obtain ⟨f2, hf2⟩ : ∃ f2, f2 = (ansV (zlibV B)).2.2 := ⟨_, rfl⟩
  have A1 := Lib.hid (show ∀ w' e w'', RawA w' (rawV B) e w'' → Kept w' w'' ∧ ∃ v, e = .returned (.tuple #[v, .int .i64 (n1 : Nat), .int .i64 f1]) ∧ Out w'' w'.heap.size v o1 from fun w' e w'' h => by rw [ho1, hn1, hf1]; exact h.ans)
  have A2 := Lib.hid (show ∀ w' e w'', RawA w' (zlibV B) e w'' → Kept w' w'' ∧ ∃ v, e = .returned (.tuple #[v, .int .i64 (n2 : Nat), .int .i64 f2]) ∧ Out w'' w'.heap.size v o2 from fun w' e w'' h => by rw [ho2, hn2, hf2]; exact h.ans)
  clear ho1 hn1 hf1 ho2 hn2 hf2 AN hlm
  go_enter Tryd.func5, Tryd.ntmps5
  go_wp2_with fail
  (with_reducible refine AW.out.mono ?_)
  rintro e w1 ⟨rfl, hk1⟩
  have K1 := Lib.hid hk1
  clear hk1
  go_wp2_with fail
  (with_reducible refine (RA.out _ K1.out).mono ?_)
  intro e w2 hr
  obtain ⟨hk, va, rfl, hov⟩ := A1.out _ _ _ hr
  have K2 := Lib.hid (K1.out.trans hk)
  have O2 := Lib.hid hov
  clear hr hk hov
  go_wp2_with fail
  (with_reducible refine (RR.out _ K2.out).mono ?_)
  intro e w3 hr
  obtain ⟨hk, vb, rfl, hov⟩ := A1.out _ _ _ hr
  have K3 := Lib.hid (K2.out.trans hk)
  have O3 := Lib.hid hov
  have O23 := Lib.hid (O2.out.kept hk)
  clear hr hk hov
  go_wp2_with fail
  (with_reducible refine (ZA.out _ K3.out).mono ?_)
  intro e w4 hr
  obtain ⟨hk, vc, rfl, hov⟩ := A2.out _ _ _ hr
  have K4 := Lib.hid (K3.out.trans hk)
  have O4 := Lib.hid hov
  have O24 := Lib.hid (O23.out.kept hk)
  have O34 := Lib.hid (O3.out.kept hk)
  clear hr hk hov
  go_wp2_with fail
  (with_reducible refine (ZR.out _ K4.out).mono ?_)
  intro e w5 hr
  obtain ⟨hk, vd, rfl, hov⟩ := A2.out _ _ _ hr
  have K5 := Lib.hid (K4.out.trans hk)
  have O5 := Lib.hid hov
  have O25 := Lib.hid (O24.out.kept hk)
  have O35 := Lib.hid (O34.out.kept hk)
  have O45 := Lib.hid (O4.out.kept hk)
  have SA := Lib.hid (same6_any O25.out O35.out)
  clear hr hk hov
  go_wp2_with fail
  (with_reducible refine SA.out.mono ?_)
  rintro e w6 ⟨rfl, hk⟩
  have K6 := Lib.hid (K5.out.trans hk)
  have SB := Lib.hid (same6_any (O45.out.kept hk) (O5.out.kept hk))
  clear hk
  go_wp2_with fail
  (with_reducible refine SB.out.mono ?_)
  rintro e w7 ⟨rfl, hk⟩
  have K7 := Lib.hid (K6.out.trans hk)
  clear hk
  go_wp2_with fail
  go_ret
  exact ⟨rfl, K7.out⟩

end Go.Proofs.YtkobcgemllcfoaaDoor
