/-
  How many bytes from two places on are the same; the longest match at a place.
-/
import Derived.Test.YtpplboihlndfpaaInfPut
import Derived.Test.YtpplboihlndfpaaDefMath
import Derived.Deep.RegionHeld3
namespace Go.Proofs.Ytpplboihlndfpaa
open Go.RowKit Dx
set_option linter.unusedSimpArgs false
set_option linter.unusedVariables false

theorem ByR.keep {w w' : World} {B0 : Nat} {p : Option Addr} {B : List UInt8} (h : ByR w B0 p B) (hB : B0 ≤ w.heap.size) (k : Kept w w') : ByR w' B0 p B := fun i hi => by
  obtain ⟨kb, o, hp, hk, hc⟩ := h i hi
  exact ⟨kb, o, hp, hk, by rw [← hc]; exact k.cells.1 _ _ (by omega)⟩

/-- Block sb holds bytes that came in, and for each place the next one ahead with the same three bytes. -/
structure Se (w : World) (sb : Nat) (p : Option Addr) (c : Nat) (b : List UInt8) (av : Value) : Prop where
  blk : Blk w sb #[.slice p b.length c, av] 58
  byt : ByR w sb p b
theorem Se.kept {w w' : World} {sb : Nat} {p : Option Addr} {c : Nat} {b : List UInt8} {av : Value} (h : Se w sb p c b av) (k : Kept w w') : Se w' sb p c b av :=
  ⟨h.blk.kept k, h.byt.keep (Nat.le_of_lt h.blk.lt) k⟩

set_option maxRecDepth 100000 in
set_option maxHeartbeats 1000000 in
theorem same_any (b : List UInt8) (i j most : Nat) {w : World} {sb : Nat} {p : Option Addr} {c : Nat} {av : Value} (h : Se w sb p c b av) (hi : i + most ≤ b.length) (hj : j < i) (hm : most ≤ 258) (hB : b.length ≤ 1099511627776) :
    Calls Try.prog 38 #[.pointer (some ⟨sb, 0, none⟩), .int .i64 i, .int .i64 j, .int .i64 most] w fun e w' => e = .returned (.int .i64 (mat b i j most)) ∧ Kept w w' := by
  have HS := Lib.hid h
  have HI := Lib.hid hi
  clear h
  go_enter Try.func38, Try.ntmps38
  go_wp2_with fail
  go_loopg [11] most (fun m y wr => ∃ n : Nat, m = most - n ∧ n ≤ most ∧ y = .int .i64 n ∧ Hid (∀ t, t < n → at' b (i + t) = at' b (j + t)) ∧ Kept w wr)
  case atStart => exact ⟨0, rfl, Nat.zero_le _, rfl, Lib.hid (fun t ht => absurd ht (Nat.not_lt_zero t)), Kept.refl w⟩
  case round =>
    obtain ⟨n, hmn, hn, rfl, HE, hk⟩ := hrel
    have HK := Lib.hid hk
    have HR := Lib.hid (HS.out.kept hk)
    clear hk
    by_cases hlt : n < most
    · have hN := HI.out
      obtain ⟨x, hx⟩ : ∃ x, x = i + n := ⟨_, rfl⟩
      obtain ⟨y, hy⟩ : ∃ y, y = j + n := ⟨_, rfl⟩
      have hxl : x < b.length := by omega
      have hyl : y < b.length := by omega
      have s1 : (i : Int) + (n : Int) = (x : Int) := by omega
      have s2 : (j : Int) + (n : Int) = (y : Int) := by omega
      have s3 : IntKind.i64.wrap (x : Int) = (x : Int) := IntWalk.i64_in _ (by omega)
      have s4 : IntKind.i64.wrap (y : Int) = (y : Int) := IntWalk.i64_in _ (by omega)
      have s5 : (x : Int) < (b.length : Int) := by omega
      have s6 : (y : Int) < (b.length : Int) := by omega
      obtain ⟨c0, c1⟩ := HR.out.blk.cells2
      obtain ⟨kb, o, hp, hkb, hcx⟩ := HR.out.byt x hxl
      obtain ⟨kb2, o2, hp2, hkb2, hcy⟩ := HR.out.byt y hyl
      have e := Option.some.inj (hp.symm.trans hp2)
      obtain ⟨rfl, rfl⟩ : kb = kb2 ∧ o = o2 := ⟨congrArg Addr.block e, congrArg Addr.off e⟩
      subst hp
      have HU := Lib.hid (at_getElem b x hxl)
      have HV := Lib.hid (at_getElem b y hyl)
      obtain ⟨u, hu⟩ : ∃ u, u = b[x] := ⟨_, rfl⟩
      obtain ⟨v, hv⟩ : ∃ v, v = b[y] := ⟨_, rfl⟩
      rw [← hu] at hcx HU
      rw [← hv] at hcy HV
      have HX := Lib.hid hx
      have HY := Lib.hid hy
      clear hu hv hp2 e hN hx hy
      by_cases huv : u = v
      · have HUV := Lib.hid huv
        have hne : ((u.toNat : Int) != (v.toNat : Int)) = false := by rw [huv]; simp
        clear huv
        go_wp2_with fail
        go_quiet (fail)
        go_wp2_with fail
        go_roundg (most - (n + 1))
        case measure => omega
        case rel =>
          refine ⟨n + 1, rfl, by omega, by go_num, Lib.hid (fun t ht => ?_), (HK.out.drewN _)⟩
          by_cases e : t = n
          · subst e
            rw [← HX.out, ← HY.out, ← HU.out, ← HV.out]; exact HUV.out
          · exact HE.out t (by omega)
      · have HUV := Lib.hid huv
        have hne : ((u.toNat : Int) != (v.toNat : Int)) = true := by
          rw [bne_iff_ne]; intro e; exact huv (UInt8.toNat_inj.1 (by omega))
        have HM := Lib.hid (mat_is (b := b) (i := i) (j := j) (k := most) HE.out hn (.inr (by rw [← HX.out, ← HY.out, ← HU.out, ← HV.out]; exact huv)))
        clear huv
        go_wp2_with fail
        go_quiet (fail)
        go_wp2_with fail
        go_ret
        exact ⟨by rw [HM.out]; rfl, HK.out.drewN _⟩
    · obtain rfl : n = most := by omega
      have HM := Lib.hid (mat_is (b := b) (i := i) (j := j) (k := n) HE.out hn (.inl rfl))
      go_wp2_with fail
      go_ret
      exact ⟨by rw [HM.out]; rfl, HK.out⟩

end Go.Proofs.Ytpplboihlndfpaa
