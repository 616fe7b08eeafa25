/-
  For each place the next one ahead where the same three bytes stand.
-/
import Derived.Test.YtpplboihlndfpaaDefIdx
import Derived.Test.YtpplboihlndfpaaInfCodes
namespace Go.Proofs.Ytpplboihlndfpaa
open Go.RowKit Go.Maps Dx
set_option linter.unusedSimpArgs false
set_option linter.unusedVariables false

/-- A row of numbers up to a place. -/
def ahdTo (b : List UInt8) (i : Nat) (m : Nat) : Int := if m < i then ahdI b m else 0
theorem Blk.cells3 {w : World} {b : Nat} {v0 v1 v2 : Value} {t : TypeId} (h : Blk w b #[v0, v1, v2] t) : w.cell? ⟨b, 0, none⟩ = some v0 ∧ w.cell? ⟨b, 1, none⟩ = some v1 ∧ w.cell? ⟨b, 2, none⟩ = some v2 :=
  ⟨h.cell 0, h.cell 1, h.cell 2⟩
theorem ahdI_near {b : List UInt8} {i : Nat} (h : i + 3 ≤ b.length) : ahdI b i = nearI (near b i i) := by unfold ahdI ahd; rw [if_pos h]

theorem run_three (w : World) (a : Option Addr) (n m : Nat) (h : ¬ n < 3) : (Instr.arrayAt 75 (.slice a n m)).run Try.prog w = .ok (.pointer a) w := by
  simp [Instr.arrayAt, run_underlying Try.underlying75, h, go_sem]

set_option maxRecDepth 100000 in
set_option maxHeartbeats 4000000 in
theorem nextAhead_any (b : List UInt8) (p : Option Addr) (c : Nat) (w : World) (h : ByR w w.heap.size p b) (hc : b.length ≤ c) (hB : b.length ≤ 1099511627776) :
    Calls Try.prog 27 #[.slice p b.length c] w fun e w' => ∃ g, e = .returned (.slice (some ⟨g, 0, none⟩) b.length b.length) ∧ w.heap.size ≤ g ∧ Arr w' g b.length (ahdI b) 3 ∧ Kept w w' := by
  have HB := Lib.hid h
  have hmm : ∀ (t : TypeId) (w : World), (Instr.makeMap t none).run Try.prog w = .ok (.map (some w.heap.size)) (w.alloc (.map #[] 0)) := fun _ _ => rfl
  obtain ⟨i0', hi, hz0, hz1, hz2⟩ := info_parts info_int
  clear h
  go_enter Try.func27, Try.ntmps27
  go_wp2_with (at_make; refine wpList_make_full _ rfl _ _ 55 rfl w.heap.size 3 i0' (.int .i64 0) 1 Try.underlying55 hi hz0 hz1 .i64 .i64 _ _ b.length rfl rfl rfl rfl (by rw [hz2]; omega) (by unfold maxLen; omega) (Nat.le_refl _) ?_; intro w4 hown hgrow; have G4 := Lib.hid (show Arr w4 w.heap.size b.length (fun _ => 0) 3 from arr_made hown); have K4 := Lib.hid (show Kept w w4 from Below.grown (Kept.refl w) hgrow (Nat.le_refl _) (fun k h => by cases h)); clear hown hgrow)
  have HG := Lib.hid (G4.out.lt)
  have HS4 := Lib.hid (Below.size K4.out)
  have HM0 := Lib.hid (Idx3.made w4)
  obtain ⟨mb, hmb⟩ : ∃ mb, mb = w4.heap.size := ⟨_, rfl⟩
  rw [← hmb] at HM0 HG ⊢
  have HMB := Lib.hid hmb
  clear hmb
  go_loopg [15] (b.length) (fun m y wr => ∃ i : Nat, m = b.length - i ∧ i ≤ b.length ∧ y = .int .i64 i ∧ Kept w wr ∧ Arr wr w.heap.size b.length (ahdTo b i) 3 ∧ mb < wr.heap.size ∧ (i + 2 ≤ b.length → Idx3 wr mb i (fun k => lastK b k i)))
  case atStart => exact ⟨0, by omega, Nat.zero_le _, rfl, K4.out.allocO _, (G4.out.alloc _).fn _ (fun i _ => by unfold ahdTo; rw [if_neg (Nat.not_lt_zero _)]), by simp; rw [HMB.out]; omega, fun _ => HM0.out⟩
  case round =>
    obtain ⟨i, hmi, hi, rfl, hk, ha, hmr, hI⟩ := hrel
    have HK := Lib.hid hk
    have HA := Lib.hid ha
    have HI := Lib.hid hI
    clear hk ha hI
    by_cases hlt : i < b.length
    · have i1 : (i : Int) < (b.length : Int) := by omega
      have c0 := HA.out.cell i hlt
      have f0 := HA.out.free
      go_upto_region 7 with fail
      have K1 := Lib.hid (HK.out.set (Nat.le_refl _) (.int .i64 (-1)) : Kept w (wr.setCell ⟨w.heap.size, i, none⟩ (.int .i64 (-1))))
      have A1 := Lib.hid (HA.out.set i (-1))
      have I1 := Lib.hid (fun hh => (HI.out hh).kept (gbS wr w.heap.size i (.int .i64 (-1))) (by intro e; injection e with e; have := HG.out; omega))
      have hm1 : mb < (wr.setCell ⟨w.heap.size, i, none⟩ (.int .i64 (-1))).heap.size := by simpa using hmr
      obtain ⟨W1, hW1⟩ : ∃ W1, W1 = wr.setCell ⟨w.heap.size, i, none⟩ (.int .i64 (-1)) := ⟨_, rfl⟩
      rw [← hW1] at K1 A1 I1 hm1 ⊢
      clear hW1 c0 f0 hmr HK HA HI
      by_cases hroom : i + 3 ≤ b.length
      · have r1 : ¬ (b.length : Int) < (i : Int) + 3 := by omega
        have HN := Lib.hid (ahdI_near hroom)
        have IX := Lib.hid (I1.out (by omega))
        obtain ⟨kb, o, hp, hkb, b0⟩ := (HB.out.keep (Nat.le_refl _) K1.out) i hlt
        obtain ⟨kb2, o2, hp2, -, b1⟩ := (HB.out.keep (Nat.le_refl _) K1.out) (i + 1) (by omega)
        obtain ⟨kb3, o3, hp3, -, b2⟩ := (HB.out.keep (Nat.le_refl _) K1.out) (i + 2) (by omega)
        have e2 := Option.some.inj (hp.symm.trans hp2)
        have e3 := Option.some.inj (hp.symm.trans hp3)
        obtain ⟨rfl, rfl⟩ : kb = kb2 ∧ o = o2 := ⟨congrArg Addr.block e2, congrArg Addr.off e2⟩
        obtain ⟨rfl, rfl⟩ : kb = kb3 ∧ o = o3 := ⟨congrArg Addr.block e3, congrArg Addr.off e3⟩
        subst hp
        rw [at_getElem b i hlt] at b0
        rw [at_getElem b (i + 1) (by omega)] at b1
        rw [at_getElem b (i + 2) (by omega)] at b2
        have HL := Lib.hid (lastK_near b i i)
        obtain ⟨x, hx⟩ : ∃ x, x = at' b i := ⟨_, rfl⟩
        obtain ⟨y, hy⟩ : ∃ y, y = at' b (i + 1) := ⟨_, rfl⟩
        obtain ⟨z, hz⟩ : ∃ z, z = at' b (i + 2) := ⟨_, rfl⟩
        rw [← hx] at b0
        rw [← hy] at b1
        rw [← hz] at b2
        rw [← hx, ← hy, ← hz] at HL
        rw [show o + (i + 1) = o + i + 1 by omega] at b1
        rw [show o + (i + 2) = o + i + 2 by omega] at b2
        obtain ⟨q, hq⟩ : ∃ q, q = o + i := ⟨_, rfl⟩
        have HX := Lib.hid (show [x, y, z] = [at' b i, at' b (i + 1), at' b (i + 2)] by rw [hx, hy, hz])
        clear hx hy hz hp2 hp3 e2 e3
        have r2 : (i : Int) ≤ (b.length : Int) := by omega
        have r3 : (b.length : Int) ≤ (c : Int) := by omega
        have r4 : ¬ (b.length - i < 3) := by omega
        have r5 := run_three W1 (some ⟨kb, o + i, none⟩) (b.length - i) (c - i) r4
        obtain ⟨J, hJ⟩ : ∃ J, J = fun k => lastK b k i := ⟨_, rfl⟩
        rw [← hJ] at IX
        have HJ1 := Lib.hid (show (fun k => if k = [x, y, z] then some i else J k) = fun k => lastK b k (i + 1) by
          funext k; rw [hJ, HX.out]; rfl)
        have HJ2 := Lib.hid (show J [x, y, z] = near b i i by rw [hJ]; exact HL.out)
        clear hJ
        go_upto_region 9 with fail
        have K2 := Lib.hid (K1.out.alloc #[Value.int IntKind.u8 x.toNat, Value.int IntKind.u8 y.toNat, Value.int IntKind.u8 z.toNat] 75)
        have A2 := Lib.hid (A1.out.alloc (.cells #[Value.int IntKind.u8 x.toNat, Value.int IntKind.u8 y.toNat, Value.int IntKind.u8 z.toNat] 75))
        have I2 := Lib.hid (IX.out.keptK ((Kept.refl W1).alloc #[Value.int IntKind.u8 x.toNat, Value.int IntKind.u8 y.toNat, Value.int IntKind.u8 z.toNat] 75))
        have B2 := Lib.hid (Blk.fresh W1 #[Value.int IntKind.u8 x.toNat, Value.int IntKind.u8 y.toNat, Value.int IntKind.u8 z.toNat] 75)
        have hm2 : mb < (W1.alloc (.cells #[Value.int IntKind.u8 x.toNat, Value.int IntKind.u8 y.toNat, Value.int IntKind.u8 z.toNat] 75)).heap.size := by simp; omega
        have hsz1 := Below.size K1.out
        have hlt1 := A1.out.lt
        obtain ⟨W2, hW2⟩ : ∃ W2, W2 = W1.alloc (.cells #[Value.int IntKind.u8 x.toNat, Value.int IntKind.u8 y.toNat, Value.int IntKind.u8 z.toNat] 75) := ⟨_, rfl⟩
        rw [← hW2] at K2 A2 I2 B2 hm2 ⊢
        obtain ⟨tb, htb⟩ : ∃ tb, tb = W1.heap.size := ⟨_, rfl⟩
        rw [← htb] at B2 ⊢
        have hne : tb ≠ w.heap.size := by omega
        have hne' : w.heap.size ≠ tb := by omega
        have hmt : mb ≠ tb := by have := IX.out.lt; omega
        obtain ⟨d0, d1, d2⟩ := B2.out.cells3
        have e0 := A2.out.cell i hlt
        have f0 := A2.out.free
        clear hW2 htb b0 b1 b2 r5 hsz1 hlt1
        cases hN : near b i i with
        | none =>
          have hJ3 : J [x, y, z] = none := by rw [HJ2.out, hN]
          have HN2 := Lib.hid (show ahdI b i = -1 by rw [HN.out, hN]; rfl)
          clear hN e0 f0
          go_wp2_with (first
            | (at_lookup; refine wpList_idx3_ok rfl _ _ rfl I2.out rfl x y z rfl ?_; rw [hJ3]; simp only [Option.getD_none, Option.isSome_none])
            | (at_mapUpdate; refine wpList_idx3_put rfl _ _ _ rfl I2.out (by unfold maxLen; omega) rfl x y z rfl i rfl (by omega) ?_; intro w5 hI5 hg5; rw [HJ1.out] at hI5; have I5 := Lib.hid hI5; have A5 := Lib.hid (A2.out.gb hg5 (by intro e; injection e with e; have := HG.out; omega)); have K5 := Lib.hid (show Kept w w5 from Below.grown K2.out hg5 (Below.size K2.out) (fun k h => by injection h with h; have := HG.out; omega)); have hm5 := hg5.size; clear hI5 hg5))
          go_roundg (b.length - (i + 1))
          case measure => omega
          case rel =>
            refine ⟨i + 1, rfl, by omega, by go_num, K5.out, A5.out.fn _ (fun j hj => ?_), by omega, fun _ => I5.out⟩
            unfold ahdTo
            by_cases e : j = i
            · subst e; rw [if_pos rfl, if_pos (by omega), HN2.out]
            · rw [if_neg e]
              by_cases e2 : j < i
              · rw [if_pos e2, if_pos (by omega)]
              · rw [if_neg e2, if_neg (by omega)]
        | some jj =>
          have hJ3 : J [x, y, z] = some jj := by rw [HJ2.out, hN]
          have HN2 := Lib.hid (show ahdI b i = (jj : Int) by rw [HN.out, hN]; rfl)
          have HNL := Lib.hid (near_lt b i i jj hN)
          clear hN
          have A3 := Lib.hid (A2.out.set i (jj : Int))
          have I3 := Lib.hid (I2.out.kept (gbS W2 w.heap.size i (.int .i64 (jj : Int))) (by intro e; injection e with e; have := HG.out; omega))
          have K3 := Lib.hid (show Kept w (W2.setCell ⟨w.heap.size, i, none⟩ (.int .i64 (jj : Int))) from K2.out.set (Nat.le_refl _) _)
          have hm3 : mb < (W2.setCell ⟨w.heap.size, i, none⟩ (.int .i64 (jj : Int))).heap.size := by simpa using hm2
          go_wp2_with (first
            | (at_lookup; refine wpList_idx3_ok rfl _ _ rfl I2.out rfl x y z rfl ?_; rw [hJ3]; simp only [Option.getD_some, Option.isSome_some])
            | (at_mapUpdate; refine wpList_idx3_put rfl _ _ _ rfl I3.out (by unfold maxLen; omega) rfl x y z rfl i rfl (by omega) ?_; intro w5 hI5 hg5; rw [HJ1.out] at hI5; have I5 := Lib.hid hI5; have A5 := Lib.hid (A3.out.gb hg5 (by intro e; injection e with e; have := HG.out; omega)); have K5 := Lib.hid (show Kept w w5 from Below.grown K3.out hg5 (Below.size K3.out) (fun k h => by injection h with h; have := HG.out; omega)); have hm5 := hg5.size; clear hI5 hg5))
          go_roundg (b.length - (i + 1))
          case measure => omega
          case rel =>
            refine ⟨i + 1, rfl, by omega, by go_num, K5.out, A5.out.fn _ (fun j hj => ?_), by omega, fun _ => I5.out⟩
            unfold ahdTo
            by_cases e : j = i
            · subst e; rw [if_pos rfl, if_pos (by omega), HN2.out]
            · rw [if_neg e, if_neg e]
              by_cases e2 : j < i
              · rw [if_pos e2, if_pos (by omega)]
              · rw [if_neg e2, if_neg (by omega)]
      · have r1 : (b.length : Int) < (i : Int) + 3 := by omega
        have HN := Lib.hid (show ahdI b i = -1 from ahdI_none (if_neg hroom))
        clear hroom
        go_wp2_with fail
        go_roundg (b.length - (i + 1))
        case measure => omega
        case rel =>
          refine ⟨i + 1, rfl, by omega, by go_num, K1.out, A1.out.fn _ (fun j hj => ?_), hm1, fun hh => by omega⟩
          unfold ahdTo
          by_cases e : j = i
          · subst e; rw [if_pos rfl, if_pos (by omega), HN.out]
          · rw [if_neg e]
            by_cases e2 : j < i
            · rw [if_pos e2, if_pos (by omega)]
            · rw [if_neg e2, if_neg (by omega)]
    · obtain rfl : i = b.length := by omega
      go_wp2_with fail
      go_ret
      exact ⟨_, rfl, Nat.le_refl _, HA.out.fn _ (fun j hj => by unfold ahdTo; rw [if_pos hj]), HK.out⟩

end Go.Proofs.Ytpplboihlndfpaa
