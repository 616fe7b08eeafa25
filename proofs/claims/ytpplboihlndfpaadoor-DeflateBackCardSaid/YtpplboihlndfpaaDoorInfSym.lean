/-
  The next symbol of a tree.
-/
import Derived.Test.YtpplboihlndfpaaDoorInfTreeMem
import Derived.Test.YtpplboihlndfpaaDoorInfFirsts
import Derived.Test.YtpplboihlndfpaaDoorInfBits
namespace Go.Proofs.YtpplboihlndfpaaDoor
open Go.RowKit Ix
set_option linter.unusedSimpArgs false
set_option linter.unusedVariables false

theorem or_one {v u : Nat} (hv : v < 1000000) (hu : u < 2) : bits BinOp.or IntKind.i64 ((v : Int) * 2) (u : Int) = ((2 * v + u : Nat) : Int) := by
  have e : ((v : Int) * 2) = ((2 * v : Nat) : Int) := by omega
  rw [e, nat_or (by omega) (by omega)]
  have := Nat.two_pow_add_eq_or_of_lt (i := 1) (b := u) (by omega) v
  rw [Nat.pow_one] at this
  rw [← this]

/-- What symGo needs of a code on its way: it is no less than the first of its length. -/
theorem sy_all (L : List Nat) (n : Nat) (h : n ≠ 0) : sy L L.length n = pos L n := by
  unfold sy; rw [if_neg h, List.take_length]
theorem fi_all (L : List Nat) (n : Nat) (h : n ≠ 0) : fi L L.length n = if cnt L n = 0 then 0 else (fst L n : Nat) := by
  unfold fi
  rw [sy_all L n h]
  have := pos_len L n
  by_cases e : pos L n = []
  · rw [if_pos e, if_pos (by rw [← this, e]; rfl)]; rfl
  · rw [if_neg e, if_neg (by rw [← this]; intro h0; exact e (List.eq_nil_of_length_eq_zero h0))]

/-- What the call of symbol leaves: a tree's block is let be. -/
def SymA (w : World) (B0 b : Nat) (p : Option Addr) (c : Nat) (B : List UInt8) (ov gv : Value) (r : Except Int (Nat × Nat)) (e : Ending) (w' : World) : Prop := match r with
  | .error k => e = .panicked (thrown k) ∧ w.grownBy w' (some b)
  | .ok (v, t') => e = .returned (.int .i64 v) ∧ BiR w B0 b p c B t' ov gv w' ∧ t' ≤ 8 * B.length

theorem symGo_step (L : List Nat) (B : List UInt8) (k n c t : Nat) : symGo L B (k + 1) n c t = if t < 8 * B.length then
      if fst L n ≤ 2 * c + bitAt B t ∧ 2 * c + bitAt B t < beh L n then .ok ((pos L n).getD (2 * c + bitAt B t - fst L n) 0, t + 1) else symGo L B k (n + 1) (2 * c + bitAt B t) (t + 1)
    else .error 4 := rfl

set_option maxRecDepth 100000 in
set_option maxHeartbeats 2000000 in
theorem symbol_any (L : List Nat) (fp : Nat → Prop) (tb : Nat) {B0 b : Nat} {p : Option Addr} {c : Nat} {B : List UInt8} {t : Nat} {ov gv : Value} {w : World} (h : Bi w B0 b p c B t ov gv) (h8 : t ≤ 8 * B.length) (hB : B.length ≤ 1099511627776)
    (hT : Tree w fp tb L) (hne : ¬ fp b) (hL : L.length ≤ 65536) :
    Calls Tryd.prog 109 #[.pointer (some ⟨b, 0, none⟩), .pointer (some ⟨tb, 0, none⟩)] w (SymA w B0 b p c B ov gv (sym L B t)) := by
  have HB := Lib.hid h
  have HT := Lib.hid hT
  have HNE := Lib.hid hne
  have hp := run_thrown
  clear h hT hne
  go_enter Tryd.func109, Tryd.ntmps109
  go_wp2_with fail
  go_loopg [5, 6] 15 (fun m cv nv wr => ∃ j d : Nat, m = 16 - j ∧ 1 ≤ j ∧ j ≤ 16 ∧ cv = .int .i64 d ∧ nv = .int .i64 j ∧ d < 2 ^ (j - 1) ∧ beh L (j - 1) ≤ d ∧ Hid (symGo L B (16 - j) j d (t + (j - 1)) = sym L B t) ∧ t + (j - 1) ≤ 8 * B.length ∧ BiR w B0 b p c B (t + (j - 1)) ov gv wr)
  case atStart => exact ⟨1, 0, rfl, Nat.le_refl _, by decide, rfl, rfl, by decide, Nat.zero_le _, Lib.hid rfl, by omega, HB.out, gbR _ _⟩
  case round =>
    obtain ⟨j, d, hm, h1, hj, rfl, rfl, hd, hbd, HS, ht, hb1, hg1⟩ := hrel
    have HB1 := Lib.hid hb1
    have HG1 := Lib.hid hg1
    have HT1 := Lib.hid (HT.out.move hg1.size fun x hx => hg1.block x (HT.out.lt x hx) (by intro e; injection e with e; subst e; exact HNE.out hx))
    clear hb1 hg1
    by_cases hlt : j ≤ 15
    · have hpow : 2 ^ (j - 1) ≤ 2 ^ 15 := Nat.pow_le_pow_right (by decide) (by omega)
      obtain ⟨k, hk⟩ : ∃ k, 16 - j = k + 1 := ⟨15 - j, by omega⟩
      have HS2 := Lib.hid (show sym L B t = _ by rw [← HS.out, hk, symGo_step])
      by_cases ht2 : t + (j - 1) < 8 * B.length
      · have BO := Lib.hid (bit_ok HB1.out ht2 hB)
        have hu := bitAt_lt B (t + (j - 1))
        obtain ⟨u, hue⟩ : ∃ u, u = bitAt B (t + (j - 1)) := ⟨_, rfl⟩
        have HS3 := Lib.hid (HS2.out.trans (if_pos ht2))
        rw [← hue] at BO hu HS3
        clear hue
        have HO := Lib.hid (or_one (show d < 1000000 by omega) hu)
        obtain ⟨e1, e2⟩ := fst_beh L j h1
        have hcn := cnt_le L j
        have hx0 := or_one (show d < 1000000 by omega) hu
        obtain ⟨x, hx⟩ : ∃ x, x = 2 * d + u := ⟨_, rfl⟩
        rw [← hx] at hx0 HS3
        have hf := fi_all L j (by omega)
        have hps := sy_all L j (by omega)
        have hpl := pos_len L j
        go_wp2_with fail
        (with_reducible refine BO.out.mono ?_)
        rintro e w2 ⟨rfl, hb2, hg2⟩
        have HB2 := Lib.hid hb2
        have HG2 := Lib.hid (gbT HG1.out hg2)
        have HT2 := Lib.hid (HT1.out.move hg2.size fun y hy => hg2.block y (HT1.out.lt y hy) (by intro e; injection e with e; subst e; exact HNE.out hy))
        have f1 := HT2.out.first j (by omega)
        obtain ⟨q, cc, s1, s2⟩ := HT2.out.slice j (by omega)
        have HS2 := Lib.hid s2
        rw [hf] at f1
        rw [hps, hpl] at s1
        clear hb2 hg2 s2
        obtain ⟨f, hfe⟩ : ∃ f, f = fst L j := ⟨_, rfl⟩
        obtain ⟨n, hne⟩ : ∃ n, n = cnt L j := ⟨_, rfl⟩
        obtain ⟨m', hme⟩ : ∃ m', m' = beh L j := ⟨_, rfl⟩
        rw [← hfe, ← hne] at f1
        rw [← hne] at s1
        rw [← hfe, ← hme] at HS3
        rw [← hfe, ← hme, ← hne] at e2
        rw [← hfe] at e1
        have hn3 : n ≤ 65536 := by omega
        have hx3 : x ≤ 131072 := by omega
        have hf3 : f ≤ x := by omega
        by_cases hM : x < m'
        · obtain ⟨i, hi⟩ : ∃ i, x = f + i := ⟨x - f, by omega⟩
          have hin : i < (pos L j).length := by omega
          have HS4 := Lib.hid (HS3.out.trans (if_pos ⟨by omega, hM⟩))
          rw [if_neg (by omega)] at f1
          obtain ⟨g, hq, _, hcg⟩ := HS2.out i (by rw [hps]; exact hin)
          subst hq
          have hv : (pos L j).getD (x - f) 0 = (pos L j)[i] := by
            rw [show x - f = i by omega]; simp [List.getD, hin]
          have hcg2 : w2.cell? ⟨g, i, none⟩ = some (.int .i64 ((pos L j)[i] : Nat)) := by
            rw [hcg]; simp only [hps]
          have HV := Lib.hid hv
          obtain ⟨v, hve⟩ : ∃ v, v = (pos L j)[i] := ⟨_, rfl⟩
          rw [← hve] at hcg2 HV
          have hxi : (x : Int) - (f : Int) = (i : Int) := by omega
          have hin2 : (i : Int) < (n : Int) := by omega
          have HI := Lib.hid hi
          have HD := Lib.hid hd
          have HX := Lib.hid hx
          clear hcg hv hve hi hd hx hfe hne hme hf hps hpl e1 e2 hM
          go_wp2_with fail
          go_ret
          unfold SymA
          rw [HS4.out, HV.out]
          exact ⟨rfl, ⟨by rw [show t + (j - 1) + 1 = t + (j - 1) + 1 from rfl]; exact HB2.out, HG2.out⟩, by omega⟩
        · have HS4 := Lib.hid (HS3.out.trans (if_neg (fun h => hM h.2)))
          obtain ⟨y, f2, hlt2, y0, y1⟩ : ∃ y : Int, w2.cell? ⟨tb, j, none⟩ = some (.int .i64 y) ∧ (n : Int) ≤ (x : Int) - y ∧ 0 ≤ y ∧ y ≤ 131072 := by
            by_cases h0 : n = 0
            · rw [if_pos h0] at f1; exact ⟨0, f1, by omega, by omega, by omega⟩
            · rw [if_neg h0] at f1; exact ⟨f, f1, by omega, by omega, by omega⟩
          clear f1
          have HD := Lib.hid hd
          have HX := Lib.hid hx
          have HM := Lib.hid hM
          have HME := Lib.hid hme
          clear hd hx hM hfe hne hme hf hps hpl e1 e2
          go_wp2_with fail
          go_roundg (16 - (j + 1))
          case measure => omega
          case rel =>
            refine ⟨j + 1, x, rfl, by omega, by omega, rfl, by go_num, ?_, ?_, ?_, by omega, ?_, HG2.out⟩
            · have := HD.out
              have h2 := HX.out
              rw [show j + 1 - 1 = (j - 1) + 1 by omega, Nat.pow_succ]; omega
            · have := HM.out
              rw [show j + 1 - 1 = j by omega, ← HME.out]; omega
            · refine Lib.hid ?_
              rw [show 16 - (j + 1) = k by omega, HS4.out, show t + (j + 1 - 1) = t + (j - 1) + 1 by omega]
            · rw [show t + (j + 1 - 1) = t + (j - 1) + 1 by omega]; exact HB2.out
      · have BN := Lib.hid (bit_no HB1.out (by omega) hB)
        have HS3 := Lib.hid (HS2.out.trans (if_neg ht2))
        go_wp2_with fail
        (with_reducible refine BN.out.mono ?_)
        rintro e w2 ⟨rfl, hg2⟩
        have HG2 := Lib.hid (gbT HG1.out hg2)
        clear hg2
        go_wp2_with fail
        refine ⟨rfl, ?_⟩
        unfold SymA
        rw [HS3.out]
        exact ⟨rfl, HG2.out⟩
    · obtain rfl : j = 16 := by omega
      have HS3 := Lib.hid (show sym L B t = .error 3 by rw [← HS.out]; rfl)
      go_wp2_with fail
      refine ⟨rfl, ?_⟩
      unfold SymA
      rw [HS3.out]
      exact ⟨rfl, HG1.out⟩

end Go.Proofs.YtpplboihlndfpaaDoor
