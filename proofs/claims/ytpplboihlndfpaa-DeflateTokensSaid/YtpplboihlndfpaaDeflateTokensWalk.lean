/-
  Tokens are matches that can't be longer, or bytes.
-/
import Derived.Test.YtpplboihlndfpaaDefAwake
import Derived.Test.YtpplboihlndfpaaDefLawMath
namespace Go.Proofs.Ytpplboihlndfpaa
open Go.RowKit Ix Dx
set_option linter.unusedSimpArgs false
set_option linter.unusedVariables false

set_option maxRecDepth 100000 in
set_option maxHeartbeats 4000000 in
theorem DeflateTokens_walk (v : Value) (b : List UInt8) (w : World) (h : ByArg w v b) :
    Calls Try.prog 5 #[v] w fun e w' => e = .returned (.bool true) ∧ Kept w w' := by
  obtain ⟨p, c, rfl, hb, hlc, hlm, hpn⟩ := h
  have HB := Lib.hid hb
  have AW := Lib.hid (awake7_any w)
  clear hb
  by_cases hbig : 2000 < b.length
  · have i1 : (2000 : Int) < (b.length : Int) := by omega
    go_enter Try.func5, Try.ntmps5
    go_wp2_with fail
    (with_reducible refine AW.out.mono ?_)
    rintro e w1 ⟨rfl, hk1⟩
    have K1 := Lib.hid hk1
    clear hk1
    go_wp2_with fail
    go_ret
    exact ⟨rfl, K1.out⟩
  have i1 : ¬ (2000 : Int) < (b.length : Int) := by omega
  have TK := Lib.hid (fun w' (k : Kept w w') => Tokens_any b p c w' (fun i hi => by
    obtain ⟨kb, o, h1, h2, h3⟩ := (HB.out.keep (Nat.le_refl _) k) i hi
    exact ⟨kb, o, h1, by have := Below.size k; omega, h3⟩) hlc (by omega))
  go_enter Try.func5, Try.ntmps5
  go_wp2_with fail
  (with_reducible refine AW.out.mono ?_)
  rintro e w1 ⟨rfl, hk1⟩
  have K1 := Lib.hid hk1
  clear hk1
  go_wp2_with fail
  (with_reducible refine (TK.out _ K1.out).mono ?_)
  rintro e w2 ⟨v2, rfl, ht, hk2⟩
  have K2 := Lib.hid (K1.out.trans hk2)
  obtain ⟨q, cap, rfl, hqc, -⟩ := ht.shape
  have TR := Lib.hid ht.tokR
  have htl := tokens_len b
  have hs2 := Below.size K2.out
  obtain ⟨l, hl⟩ : ∃ l, l = tokens b := ⟨_, rfl⟩
  rw [← hl] at TR htl hqc ⊢
  have HLE := Lib.hid hl
  clear ht hk2 hl TK
  go_wp2_with fail
  go_loopg [5, 6] (l.length) (fun m x y wr => ∃ (i at_ f : Nat), m = l.length - i ∧ i ≤ l.length ∧ x = .int .i64 at_ ∧ y = .int .i64 i ∧ at_ ≤ b.length ∧ Hid (l.drop i = toks b f at_ ∧ b.length ≤ f + at_) ∧ Kept w2 wr)
  case atStart => exact ⟨0, 0, b.length, rfl, Nat.zero_le _, rfl, rfl, Nat.zero_le _, Lib.hid ⟨by rw [List.drop_zero]; exact HLE.out, Nat.le_refl _⟩, Kept.refl _⟩
  case round =>
    obtain ⟨i, at_, f, hm, hi, rfl, rfl, hat, HD, hk⟩ := hrel
    have HK := Lib.hid hk
    have HBR := Lib.hid (HB.out.keep (Nat.le_refl _) (K2.out.trans hk))
    clear hk
    by_cases hlt : i < l.length
    · have j1 : (i : Int) < (l.length : Int) := by omega
      have hal : at_ < b.length := by
        by_cases c : at_ < b.length
        · exact c
        · have h1 := HD.out.1
          rw [toks_end b f at_ (by omega), List.drop_eq_nil_iff] at h1
          omega
      obtain ⟨kt, ot, hq, hkt, t0, t1, t2⟩ := (TR.out.keep (Nat.le_refl _) HK.out) i hlt
      subst hq
      obtain ⟨kb, ob, hp, hkb, hcx⟩ := HBR.out at_ hal
      subst hp
      rw [at_getElem b at_ hal] at hcx
      have hdr : l.drop i = l[i] :: l.drop (i + 1) := List.drop_eq_getElem_cons hlt
      by_cases h0 : (long b at_).1 = 0
      · obtain ⟨g, hg, hst⟩ := toks_lit hal HD.out.2 h0
        have hh := HD.out.1
        rw [hdr, hst] at hh
        injection hh with e1 e2
        have HD2 := Lib.hid (show l.drop (i + 1) = toks b g (at_ + 1) ∧ b.length ≤ g + (at_ + 1) from ⟨e2, hg⟩)
        rw [e1] at t0 t1 t2
        simp only at t0 t1 t2
        have s1 : ¬ (b.length : Int) ≤ (at_ : Int) := by omega
        have s2 : (at_ : Int) < (b.length : Int) := by omega
        obtain ⟨x, hx⟩ : ∃ x, x = at' b at_ := ⟨_, rfl⟩
        rw [← hx] at t0 hcx
        have HT0 := Lib.hid t0
        have HCX := Lib.hid hcx
        clear hdr hst e1 e2 hg h0 hx
        go_upto_region 11 with fail
        have KA := Lib.hid (show Kept wr (wr.alloc (.cells #[.int .u8 (x.toNat : Int), .int .i64 0, .int .i64 0] 38)) from (Kept.refl wr).allocO _)
        have BA := Lib.hid (Blk.fresh wr #[.int .u8 (x.toNat : Int), .int .i64 0, .int .i64 0] 38)
        have cx := HCX.out
        have hsr := Below.size HK.out
        rw [← KA.out.cells.1 kb (ob + at_) (by omega)] at cx
        obtain ⟨W3, hW3⟩ : ∃ W3, W3 = wr.alloc (.cells #[.int .u8 (x.toNat : Int), .int .i64 0, .int .i64 0] 38) := ⟨_, rfl⟩
        rw [← hW3] at KA BA cx ⊢
        obtain ⟨tb, htb⟩ : ∃ tb, tb = wr.heap.size := ⟨_, rfl⟩
        rw [← htb] at BA ⊢
        obtain ⟨d0, d1, d2⟩ := BA.out.cells3
        have hne : ((x.toNat : Int) != (x.toNat : Int)) = false := by simp
        clear hW3 htb t0 t1 t2 hcx
        go_quiet (fail)
        go_wp2_with fail
        go_roundg (l.length - (i + 1))
        case measure => omega
        case rel => exact ⟨i + 1, at_ + 1, g, rfl, by omega, by go_num, by go_num, by omega, Lib.hid HD2.out, (HK.out.trans KA.out).drewN _⟩
      · obtain ⟨g, hg, hst⟩ := toks_match hal HD.out.2 h0
        have hlm := long_match h0
        have hh := HD.out.1
        rw [hdr, hst] at hh
        injection hh with e1 e2
        obtain ⟨n, hn⟩ : ∃ n, n = (long b at_).1 := ⟨_, rfl⟩
        obtain ⟨d, hd⟩ : ∃ d, d = (long b at_).2 := ⟨_, rfl⟩
        rw [← hn, ← hd] at e1
        rw [← hn] at e2 hg
        rw [← hn, ← hd] at hlm
        obtain ⟨m1, m2, m3, m4, m5, m6, m7⟩ := hlm
        have M6 := Lib.hid m6
        have M7 := Lib.hid m7
        have HD2 := Lib.hid (show l.drop (i + 1) = toks b g (at_ + n) ∧ b.length ≤ g + (at_ + n) from ⟨e2, hg⟩)
        rw [e1] at t0 t1 t2
        simp only at t0 t1 t2
        have n0 : ((n : Int) == 0) = false := by rw [beq_eq_false_iff_ne]; omega
        clear hdr hst e1 e2 hg h0 hn hd m6 m7
        go_upto_region 14 with fail
        have KA := Lib.hid (show Kept wr (wr.alloc (.cells #[.int .u8 0, .int .i64 n, .int .i64 d] 38)) from (Kept.refl wr).allocO _)
        have BA := Lib.hid (Blk.fresh wr #[.int .u8 0, .int .i64 n, .int .i64 d] 38)
        have hsr := Below.size HK.out
        have CB := Lib.hid (show ∀ y, y < b.length → (wr.alloc (.cells #[.int .u8 0, .int .i64 n, .int .i64 d] 38)).cell? ⟨kb, ob + y, none⟩ = some (.int .u8 ((at' b y).toNat : Int)) from fun y hy => by
          obtain ⟨kb2, ob2, hp2, -, hc2⟩ := HBR.out y hy
          have e := Option.some.inj hp2
          obtain ⟨rfl, rfl⟩ : kb = kb2 ∧ ob = ob2 := ⟨congrArg Addr.block e, congrArg Addr.off e⟩
          rw [KA.out.cells.1 kb (ob + y) (by omega), hc2, at_getElem b y hy])
        have hkb3 : kb < (wr.alloc (.cells #[.int .u8 0, .int .i64 n, .int .i64 d] 38)).heap.size := by simp; omega
        obtain ⟨W3, hW3⟩ : ∃ W3, W3 = wr.alloc (.cells #[.int .u8 0, .int .i64 n, .int .i64 d] 38) := ⟨_, rfl⟩
        rw [← hW3] at KA BA CB hkb3 ⊢
        obtain ⟨tb, htb⟩ : ∃ tb, tb = wr.heap.size := ⟨_, rfl⟩
        rw [← htb] at BA ⊢
        obtain ⟨d0, d1, d2⟩ := BA.out.cells3
        have e1 : ¬ (n : Int) < 3 := by omega
        have e2 : ¬ (258 : Int) < (n : Int) := by omega
        have e3 : ¬ (d : Int) < 1 := by omega
        have e4 : ¬ (at_ : Int) < (d : Int) := by omega
        have e5 : ¬ (b.length : Int) < (at_ : Int) + (n : Int) := by omega
        clear hW3 htb t0 t1 t2 hcx
        go_wp2_with fail
        go_loopg [8] n (fun m y wq => ∃ k : Nat, m = n - k ∧ k ≤ n ∧ y = .int .i64 k ∧ Kept W3 wq)
        case atStart => exact ⟨0, rfl, Nat.zero_le _, rfl, Kept.refl _⟩
        case round =>
          obtain ⟨k, hmk, hkn, rfl, hkq⟩ := hrel
          have KQ := Lib.hid hkq
          obtain ⟨d0, d1, d2⟩ := (BA.out.kept hkq).cells3
          clear hkq
          by_cases hk2 : k < n
          · have k1 : (k : Int) < (n : Int) := by omega
            obtain ⟨x, hx⟩ : ∃ x, x = at_ + k := ⟨_, rfl⟩
            obtain ⟨y, hy⟩ : ∃ y, y = at_ + k - d := ⟨_, rfl⟩
            have z1 : (at_ : Int) + (k : Int) = (x : Int) := by omega
            have z2 : (x : Int) - (d : Int) = (y : Int) := by omega
            have z3 : IntKind.i64.wrap (x : Int) = (x : Int) := IntWalk.i64_in _ (by omega)
            have z4 : IntKind.i64.wrap (y : Int) = (y : Int) := IntWalk.i64_in _ (by omega)
            have z5 : (x : Int) < (b.length : Int) := by omega
            have z6 : (y : Int) < (b.length : Int) := by omega
            have cx := CB.out x (by omega)
            have cy := CB.out y (by omega)
            rw [← KQ.out.cells.1 kb _ hkb3] at cx cy
            have huv := M6.out k hk2
            rw [← hy, ← hx] at huv
            rw [← huv] at cy
            obtain ⟨u, hu⟩ : ∃ u, u = at' b x := ⟨_, rfl⟩
            rw [← hu] at cx cy
            have hne : ((u.toNat : Int) != (u.toNat : Int)) = false := by simp
            clear hx hy huv hu
            go_wp2_with fail
            go_quiet (fail)
            go_wp2_with fail
            go_roundg (n - (k + 1))
            case measure => omega
            case rel => exact ⟨k + 1, rfl, by omega, by go_num, KQ.out.drewN _⟩
          · obtain rfl : k = n := by omega
            by_cases c1 : k < 258
            · have f1 : (k : Int) < 258 := by omega
              by_cases c2 : at_ + k < b.length
              · obtain ⟨x, hx⟩ : ∃ x, x = at_ + k := ⟨_, rfl⟩
                obtain ⟨y, hy⟩ : ∃ y, y = at_ + k - d := ⟨_, rfl⟩
                have z1 : (at_ : Int) + (k : Int) = (x : Int) := by omega
                have z2 : (x : Int) - (d : Int) = (y : Int) := by omega
                have z3 : IntKind.i64.wrap (x : Int) = (x : Int) := IntWalk.i64_in _ (by omega)
                have z4 : IntKind.i64.wrap (y : Int) = (y : Int) := IntWalk.i64_in _ (by omega)
                have z5 : (x : Int) < (b.length : Int) := by omega
                have z6 : (y : Int) < (b.length : Int) := by omega
                have cx := CB.out x (by omega)
                have cy := CB.out y (by omega)
                rw [← KQ.out.cells.1 kb _ hkb3] at cx cy
                have huv := M7.out c1 c2
                rw [← hy, ← hx] at huv
                obtain ⟨u, hu⟩ : ∃ u, u = at' b x := ⟨_, rfl⟩
                obtain ⟨t, ht⟩ : ∃ t, t = at' b y := ⟨_, rfl⟩
                rw [← hu, ← ht] at huv
                rw [← hu] at cx
                rw [← ht] at cy
                have hne : ((u.toNat : Int) == (t.toNat : Int)) = false := by
                  rw [beq_eq_false_iff_ne]; intro e; exact huv (UInt8.toNat_inj.1 (by omega))
                have hnn : at_ + k ≤ b.length := by omega
                clear hx hy huv hu ht
                go_wp2_with fail
                go_quiet (fail)
                go_wp2_with fail
                go_roundg (l.length - (i + 1))
                case measure => omega
                case rel => exact ⟨i + 1, at_ + k, g, rfl, by omega, by go_num, by go_num, hnn, Lib.hid HD2.out, (HK.out.trans (KA.out.trans KQ.out)).drewN _⟩
              · have f2 : decide ((at_ : Int) + (k : Int) < (b.length : Int)) = false := by rw [decide_eq_false_iff_not]; omega
                have hnn : at_ + k ≤ b.length := by omega
                have f3 : ¬ (at_ : Int) + (k : Int) < (b.length : Int) := by omega
                go_wp2_with fail
                go_quiet (fail)
                go_wp2_with fail
                go_roundg (l.length - (i + 1))
                case measure => omega
                case rel => exact ⟨i + 1, at_ + k, g, rfl, by omega, by go_num, by go_num, hnn, Lib.hid HD2.out, (HK.out.trans (KA.out.trans KQ.out)).drewN _⟩
            · have f1 : decide ((k : Int) < 258) = false := by rw [decide_eq_false_iff_not]; omega
              have f3 : ¬ (k : Int) < 258 := by omega
              have hnn : at_ + k ≤ b.length := by omega
              go_wp2_with fail
              go_quiet (fail)
              go_wp2_with fail
              go_roundg (l.length - (i + 1))
              case measure => omega
              case rel => exact ⟨i + 1, at_ + k, g, rfl, by omega, by go_num, by go_num, hnn, Lib.hid HD2.out, (HK.out.trans (KA.out.trans KQ.out)).drewN _⟩
    · have HE := Lib.hid (show at_ = b.length from by
        by_cases c : at_ < b.length
        · have h1 := HD.out.1
          rw [List.drop_eq_nil_of_le (by omega)] at h1
          by_cases e : (long b at_).1 = 0
          · obtain ⟨g, -, hst⟩ := toks_lit c HD.out.2 e
            rw [hst] at h1; cases h1
          · obtain ⟨g, -, hst⟩ := toks_match c HD.out.2 e
            rw [hst] at h1; cases h1
        · omega)
      have he : ((at_ : Int) == (b.length : Int)) = true := by rw [beq_iff_eq]; have := HE.out; omega
      go_wp2_with fail
      go_ret
      exact ⟨rfl, K2.out.trans HK.out⟩

end Go.Proofs.Ytpplboihlndfpaa
