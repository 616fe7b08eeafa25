/-
  The reference's match.
-/
import Derived.Test.YtpplboihlndfpaaDefRefTok
import Derived.BigQuiet
namespace Go.Proofs.Ytpplboihlndfpaa
open Go.RowKit Ix Dx
set_option linter.unusedSimpArgs false
set_option linter.unusedVariables false

set_option maxRecDepth 100000 in
set_option maxHeartbeats 1000000 in
theorem refMatch_any (b : List UInt8) (i j : Nat) (p : Option Addr) (c : Nat) {w : World} (h : ByR w w.heap.size p b) (hj : j < i) (hi : i < b.length) (hB : b.length ≤ 1099511627776) :
    Calls Try.prog 29 #[.slice p b.length c, .int .i64 j, .int .i64 i] w fun e w' => e = .returned (.int .i64 (M b i j)) ∧ Kept w w' := by
  have HS := Lib.hid h
  have HT := Lib.hid (show top b i = min 258 (b.length - i) from rfl)
  obtain ⟨most, hmost⟩ : ∃ most, most = top b i := ⟨_, rfl⟩
  have hM : M b i j = mat b i j most := by unfold M; rw [hmost]
  have hmi : i + most ≤ b.length := by rw [hmost]; unfold top; omega
  have hm2 : most ≤ 258 := by rw [hmost]; unfold top; omega
  have hm3 : most = 258 ∨ i + most = b.length := by rw [hmost]; unfold top; omega
  rw [hM]
  have HI := Lib.hid hmi
  have HM3 := Lib.hid hm3
  clear h hmost hM hmi hm3 HT
  go_enter Try.func29, Try.ntmps29
  go_wp2_with fail
  go_loopg [7] most (fun m y wr => ∃ n : Nat, m = most - n ∧ n ≤ most ∧ y = .int .i64 n ∧ Hid (∀ t, t < n → at' b (i + t) = at' b (j + t)) ∧ Kept w wr)
  case atStart => exact ⟨0, rfl, Nat.zero_le _, rfl, Lib.hid (fun t ht => absurd ht (Nat.not_lt_zero t)), Kept.refl w⟩
  case round =>
    obtain ⟨n, hmn, hn, rfl, HE, hk⟩ := hrel
    have HK := Lib.hid hk
    have HR := Lib.hid (HS.out.keep (Nat.le_refl _) hk)
    clear hk
    obtain ⟨x, hx⟩ : ∃ x, x = i + n := ⟨_, rfl⟩
    have hN := HI.out
    have s1 : (i : Int) + (n : Int) = (x : Int) := by omega
    by_cases hlt : n < most
    · obtain ⟨y, hy⟩ : ∃ y, y = j + n := ⟨_, rfl⟩
      have hxl : x < b.length := by omega
      have hyl : y < b.length := by omega
      have s2 : (j : Int) + (n : Int) = (y : Int) := by omega
      have s3 : IntKind.i64.wrap (x : Int) = (x : Int) := IntWalk.i64_in _ (by omega)
      have s4 : IntKind.i64.wrap (y : Int) = (y : Int) := IntWalk.i64_in _ (by omega)
      have s5 : (x : Int) < (b.length : Int) := by omega
      have s6 : (y : Int) < (b.length : Int) := by omega
      have s7 : (n : Int) < 258 := by omega
      obtain ⟨kb, o, hp, hkb, hcx⟩ := HR.out x hxl
      obtain ⟨kb2, o2, hp2, hkb2, hcy⟩ := HR.out y hyl
      have e := Option.some.inj (hp.symm.trans hp2)
      obtain ⟨rfl, rfl⟩ : kb = kb2 ∧ o = o2 := ⟨congrArg Addr.block e, congrArg Addr.off e⟩
      subst hp
      have HU := Lib.hid (at_getElem b x hxl)
      have HV := Lib.hid (at_getElem b y hyl)
      obtain ⟨u, hu⟩ : ∃ u, u = b[x] := ⟨_, rfl⟩
      obtain ⟨v, hv⟩ : ∃ v, v = b[y] := ⟨_, rfl⟩
      rw [← hu] at hcx HU
      rw [← hv] at hcy HV
      have HX := Lib.hid hx
      have HY := Lib.hid hy
      clear hu hv hp2 e hN hx hy
      by_cases huv : u = v
      · have HUV := Lib.hid huv
        have hne : ((v.toNat : Int) == (u.toNat : Int)) = true := by rw [huv]; simp
        clear huv
        go_wp2_with fail
        go_quiet (fail)
        go_wp2_with fail
        go_roundg (most - (n + 1))
        case measure => omega
        case rel =>
          refine ⟨n + 1, rfl, by omega, by go_num, Lib.hid (fun t ht => ?_), (HK.out.drewN _)⟩
          by_cases e : t = n
          · subst e
            rw [← HX.out, ← HY.out, ← HU.out, ← HV.out]; exact HUV.out
          · exact HE.out t (by omega)
      · have hne : ((v.toNat : Int) == (u.toNat : Int)) = false := by
          rw [beq_eq_false_iff_ne]; intro e; exact huv (UInt8.toNat_inj.1 (by omega))
        have HM := Lib.hid (mat_is (b := b) (i := i) (j := j) (k := most) HE.out hn (.inr (by rw [← HX.out, ← HY.out, ← HU.out, ← HV.out]; exact huv)))
        clear huv
        go_wp2_with fail
        go_quiet (fail)
        go_wp2_with fail
        go_ret
        exact ⟨by rw [HM.out]; rfl, HK.out.drewN _⟩
    · obtain rfl : n = most := by omega
      have HM := Lib.hid (mat_is (b := b) (i := i) (j := j) (k := n) HE.out (Nat.le_refl _) (.inl rfl))
      have HE2 := HM3.out
      have hs3 : IntKind.i64.wrap (x : Int) = (x : Int) := IntWalk.i64_in _ (by omega)
      rcases HE2 with e | e
      · have s5 : decide ((n : Int) < 258) = false := by rw [decide_eq_false_iff_not]; omega
        by_cases hx2 : x < b.length
        · have s6 : (x : Int) < (b.length : Int) := by omega
          clear e hmn hx hN hx2
          go_wp2_with fail
          go_quiet (fail)
          go_wp2_with fail
          go_ret
          exact ⟨by rw [HM.out]; rfl, HK.out.drewN _⟩
        · have s6 : decide ((x : Int) < (b.length : Int)) = false := by rw [decide_eq_false_iff_not]; omega
          have s7 : decide (x < b.length) = false := by rw [decide_eq_false_iff_not]; omega
          clear e hmn hx hN hx2
          go_wp2_with fail
          go_quiet (fail)
          go_wp2_with fail
          go_ret
          exact ⟨by rw [HM.out]; rfl, HK.out.drewN _⟩
      · have s6 : decide ((x : Int) < (b.length : Int)) = false := by rw [decide_eq_false_iff_not]; omega
        have s7 : decide (x < b.length) = false := by rw [decide_eq_false_iff_not]; omega
        clear e hmn hx hN
        go_wp2_with fail
        go_quiet (fail)
        go_wp2_with fail
        go_ret
        exact ⟨by rw [HM.out]; rfl, HK.out.drewN _⟩

end Go.Proofs.Ytpplboihlndfpaa
