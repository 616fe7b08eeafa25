/-
  The reference's Expand: the same bytes.
-/
import Derived.Test.YtpplboihlndfpaaDefRefTok
namespace Go.Proofs.Ytpplboihlndfpaa
open Go.RowKit Ix Dx
set_option linter.unusedSimpArgs false
set_option linter.unusedVariables false
attribute [local go_sem ↓] run_greatest3

theorem size_le : ∀ (l : List Tok) (n m : Nat), sizeGo l n = some m → m ≤ n + 258 * l.length
  | [], n, m, h => by injection h with h; simp; omega
  | t :: r, n, m, h => by
    by_cases c : badT t n
    · rw [sizeGo_bad c] at h; cases h
    · rw [sizeGo_good c] at h
      have := size_le r _ m h
      have hx : max t.len.toNat 1 ≤ 258 := by
        rcases good_cases c with h0 | ⟨k, d, hk, _, k1, k2, _, _⟩
        · rw [h0]; decide
        · rw [hk, Int.toNat_natCast]; omega
      rw [List.length_cons]
      omega
theorem ne_own {g2 g5 tb N n c : Nat} {p : Option Addr} (hat : (Value.slice p n c).ownBlock = some g5 ∨ g5 = N + 1) (h : (Value.slice p n c).ownBlock ≠ some tb) (ht : tb < N) : g5 ≠ tb := by
  rcases hat with e | e
  · exact fun e2 => h (by rw [e, e2])
  · omega

set_option maxRecDepth 100000 in
set_option maxHeartbeats 4000000 in
theorem refExpand_any (l : List Tok) (p : Option Addr) (c : Nat) (w : World) (h : TokR w w.heap.size p l) (hB : l.length ≤ 1000) :
    Calls Try.prog 18 #[.slice p l.length c] w (ExpA w (expandV l)) := by
  have HT := Lib.hid h
  clear h
  go_enter Try.func18, Try.ntmps18
  go_wp2_with fail
  go_loopg [4, 5] l.length (fun m x y wr => ∃ (j : Nat) (o : List UInt8) (q : Option Addr) (cap : Nat), m = l.length - j ∧ j ≤ l.length ∧ x = .slice q o.length cap ∧ y = .int .i64 j ∧ Out wr w.heap.size (.slice q o.length cap) o ∧ o.length ≤ 258 * j ∧ Hid (sizeGo (l.drop j) o.length = sizeGo l 0 ∧ expGo (l.drop j) o = expGo l []) ∧ Kept w wr)
  case atStart => exact ⟨0, [], none, 0, rfl, Nat.zero_le _, rfl, rfl, World.ownsRow_nil _ _ _ _, Nat.le_refl _, Lib.hid ⟨rfl, rfl⟩, Kept.refl w⟩
  case round =>
    obtain ⟨j, o, q, cap, hm, hj, rfl, rfl, ho, hob, HE, hk⟩ := hrel
    have HO := Lib.hid ho
    have HK := Lib.hid hk
    have hsr := Below.size hk
    clear ho hk
    by_cases hlt : j < l.length
    · have j1 : (j : Int) < (l.length : Int) := by omega
      obtain ⟨kb, ofs, hp, hkb, c0, c1, c2⟩ := (HT.out.keep (Nat.le_refl _) HK.out) j hlt
      subst hp
      have hdr : l.drop j = l[j] :: l.drop (j + 1) := List.drop_eq_getElem_cons hlt
      obtain ⟨t, ht⟩ : ∃ t, t = l[j] := ⟨_, rfl⟩
      rw [← ht] at c0 c1 c2 hdr
      have KA := Lib.hid (show Kept wr (wr.alloc (.cells #[.int .u8 (t.lit.toNat : Int), .int .i64 t.len, .int .i64 t.dist] 48)) from (Kept.refl wr).allocO _)
      by_cases hbad : badT t o.length
      · have HV := Lib.hid (show expandV l = .error 1 by
          have hs : sizeGo l 0 = none := by rw [← HE.out.1, hdr]; exact sizeGo_bad hbad
          unfold expandV
          rw [hs])
        unfold badT at hbad
        obtain ⟨n, hn⟩ : ∃ n, n = o.length := ⟨_, rfl⟩
        have K2 := Lib.hid (HK.out.trans KA.out)
        rw [← hn] at hbad hob ⊢
        clear ht hdr hn
        rcases (show t.len < 0 ∨ (¬ t.len < 0 ∧ 258 < t.len) ∨ (¬ t.len < 0 ∧ ¬ 258 < t.len ∧ 0 < t.len ∧ t.dist < 1) ∨ (¬ t.len < 0 ∧ ¬ 258 < t.len ∧ 0 < t.len ∧ ¬ t.dist < 1 ∧ (n : Int) < t.dist) by omega) with b1 | ⟨b1, b2⟩ | ⟨b1, b2, b3, b4⟩ | ⟨b1, b2, b3, b4, b5⟩
        all_goals
          clear hbad
          go_wp2_with fail
          go_ret2
          unfold ExpA
          rw [HV.out]
          exact ⟨K2.out, rfl⟩
      · have hE1 : sizeGo (l.drop (j + 1)) (o.length + max t.len.toNat 1) = sizeGo l 0 := by
          have := HE.out.1
          rw [hdr, sizeGo_good hbad] at this; exact this
        have hE2 : expGo (l.drop (j + 1)) (if t.len = 0 then o ++ [t.lit] else copy t.dist.toNat t.len.toNat o) = expGo l [] := by
          have := HE.out.2
          rw [hdr, expGo] at this; exact this
        have BA := Lib.hid (Blk.fresh wr #[.int .u8 (t.lit.toNat : Int), .int .i64 t.len, .int .i64 t.dist] 48)
        have OA := Lib.hid (HO.out.kept KA.out)
        rcases good_cases hbad with h0 | ⟨k, d, hkk, hdd, k1, k2, d1, d2⟩
        · rw [h0] at c1 KA BA OA hE1 hE2
          have HE2 := Lib.hid (show sizeGo (l.drop (j + 1)) (o ++ [t.lit]).length = sizeGo l 0 ∧ expGo (l.drop (j + 1)) (o ++ [t.lit]) = expGo l [] by
            rw [List.length_append]; exact ⟨hE1, hE2⟩)
          have m1 : max (1 : Int) 0 = 1 := by decide
          have z1 : ¬ 1048576 < (o.length : Int) + 1 := by omega
          have ll : (o ++ [t.lit]).length = o.length + 1 := by simp
          obtain ⟨x, hx⟩ : ∃ x, x = t.lit := ⟨_, rfl⟩
          rw [← hx] at c0 KA BA OA HE2 ll
          clear ht hdr hbad hE1 hE2 h0 hx
          go_upto_region 10 with fail
          obtain ⟨W3, hW3⟩ : ∃ W3, W3 = wr.alloc (.cells #[.int .u8 (x.toNat : Int), .int .i64 0, .int .i64 t.dist] 48) := ⟨_, rfl⟩
          rw [← hW3] at KA BA OA ⊢
          obtain ⟨tb, htb⟩ : ∃ tb, tb = wr.heap.size := ⟨_, rfl⟩
          rw [← htb] at BA ⊢
          have HTB := Lib.hid htb
          have HGT := Lib.hid (show (Value.slice q o.length cap).ownBlock ≠ some tb from fun e => by have := (HO.out.lt tb e).2; omega)
          obtain ⟨e0, e1, e2⟩ := BA.out.cells3
          have hs3 := Below.size KA.out
          have htl : tb < W3.heap.size := BA.out.lt
          clear hW3 htb c0 c1 c2
          go_wp2_with (at_builtin; go_loud (refine wpList_app_out rfl _ _ rfl OA.out x rfl rfl (by omega) (by omega) ?_); intro g5 cap5 w5 ho5 hg5 hat5; have O5 := Lib.hid ho5; go_loud (have K5 := Lib.hid (show Kept w w5 from Below.grown ((HK.out.trans KA.out).allocO _) hg5 (by simp; omega) (fun y hy => (OA.out.lt y hy).1))); go_loud (have F5 := (show w5.cell? ⟨tb, 1, none⟩ = some (.int .i64 0) from by rw [← e1]; exact (World.cell?_of_block (hg5.block tb (by simp; omega) (fun h => HGT.out h.symm))).trans (World.cell?_of_block (Below.heap_alloc W3 _ tb BA.out.lt)))); clear ho5 hg5 hat5)
          go_loopg [4, 7] 0 (fun m a b wq => m = 0 ∧ a = .slice (some ⟨g5, 0, none⟩) (o.length + 1) cap5 ∧ b = .int .i64 0 ∧ w5 = wq)
          case atStart => exact ⟨rfl, rfl, rfl, rfl⟩
          case round =>
            obtain ⟨-, rfl, rfl, rfl⟩ := hrel
            go_wp2_with fail
            go_roundg (l.length - (j + 1))
            case measure => omega
            case rel => exact ⟨j + 1, o ++ [x], some ⟨g5, 0, none⟩, cap5, rfl, by omega, by rw [ll], by go_num, by rw [ll]; exact O5.out, by rw [ll]; omega, HE2, K5.out⟩
        · obtain ⟨g, cap', hq, hle⟩ := HO.out.shape (by omega)
          injection hq with hq1 hq2 hq3
          subst hq1 hq3
          have HE2 := Lib.hid (show sizeGo (l.drop (j + 1)) (o.length + k) = sizeGo l 0 ∧ expGo (l.drop (j + 1)) (copy d k o) = expGo l [] by
            rw [hkk, Int.toNat_natCast, show max k 1 = k by omega] at hE1
            rw [hkk, hdd, if_neg (by omega), Int.toNat_natCast, Int.toNat_natCast] at hE2
            exact ⟨hE1, hE2⟩)
          rw [hkk, hdd] at KA BA OA
          rw [hkk] at c1
          rw [hdd] at c2
          have m1 : max (1 : Int) (k : Int) = (k : Int) := by omega
          have q1 : ¬ (k : Int) < 0 := by omega
          have q2 : ¬ (258 : Int) < (k : Int) := by omega
          have q3 : (0 : Int) < (k : Int) := by omega
          have q4 : ¬ (d : Int) < 1 := by omega
          have q5 : ¬ (o.length : Int) < (d : Int) := by omega
          have q0 : ((k : Int) == 0) = false := by rw [beq_eq_false_iff_ne]; omega
          have z1 : ¬ 1048576 < (o.length : Int) + (k : Int) := by omega
          clear ht hdr hbad hE1 hE2 hkk hdd hq2
          go_upto_region 10 with fail
          obtain ⟨W3, hW3⟩ : ∃ W3, W3 = wr.alloc (.cells #[.int .u8 (t.lit.toNat : Int), .int .i64 k, .int .i64 d] 48) := ⟨_, rfl⟩
          rw [← hW3] at KA BA OA ⊢
          obtain ⟨tb, htb⟩ : ∃ tb, tb = wr.heap.size := ⟨_, rfl⟩
          rw [← htb] at BA ⊢
          have HTB := Lib.hid htb
          have HGT := Lib.hid (show g ≠ tb by have := (HO.out.lt g rfl).2; omega)
          obtain ⟨e0, e1, e2⟩ := BA.out.cells3
          have hs3 := Below.size KA.out
          have htl : tb < W3.heap.size := BA.out.lt
          have K3 := Lib.hid (HK.out.trans KA.out)
          have hs3w := Below.size K3.out
          clear hW3 htb c0 c1 c2
          go_wp2_with fail
          go_loopg [4, 7] k (fun m a b wq => ∃ (i g2 cap2 : Nat) (o2 : List UInt8), m = k - i ∧ i ≤ k ∧ a = .slice (some ⟨g2, 0, none⟩) o2.length cap2 ∧ b = .int .i64 i ∧ Out wq w.heap.size (.slice (some ⟨g2, 0, none⟩) o2.length cap2) o2 ∧ g2 ≠ tb ∧ o2.length = o.length + i ∧ Hid (copy d (k - i) o2 = copy d k o) ∧ Kept w wq ∧ Blk wq tb #[.int .u8 (t.lit.toNat : Int), .int .i64 k, .int .i64 d] 48)
          case atStart => exact ⟨0, g, cap, o, rfl, Nat.zero_le _, rfl, rfl, OA.out, HGT.out, rfl, Lib.hid rfl, K3.out, BA.out⟩
          case round =>
            obtain ⟨i, g2, cap2, o2, hmi, hik, rfl, rfl, ho2, hg2, hol2, HC, hkq, hbq⟩ := hrel
            have O2 := Lib.hid ho2
            have KQ := Lib.hid hkq
            have BQ := Lib.hid hbq
            have hsq := Below.size hkq
            obtain ⟨e0, e1, e2⟩ := hbq.cells3
            have htq := hbq.lt
            clear ho2 hkq hbq
            by_cases hik2 : i < k
            · have j2 : (i : Int) < (k : Int) := by omega
              obtain ⟨x, hx⟩ : ∃ x, x = o2.length - d := ⟨_, rfl⟩
              have hxl : x < o2.length := by omega
              have z1 : (o2.length : Int) - (d : Int) = (x : Int) := by omega
              have z2 : IntKind.i64.wrap (x : Int) = (x : Int) := IntWalk.i64_in _ (by omega)
              have z3 : (x : Int) < (o2.length : Int) := by omega
              have cx := O2.out.cellO x hxl
              obtain ⟨u, hu⟩ : ∃ u, u = o2.getD x 0 := ⟨_, rfl⟩
              rw [← hu] at cx
              have HC2 := Lib.hid (show copy d (k - (i + 1)) (o2 ++ [u]) = copy d k o by
                rw [← HC.out, show k - i = (k - (i + 1)) + 1 by omega, copy, hu, hx]; rfl)
              have ll : (o2 ++ [u]).length = o2.length + 1 := by simp
              have hob2 : o2.length + 1 ≤ 1099511627776 := by omega
              have HG2 := Lib.hid hg2
              have HOL := Lib.hid hol2
              have hos : o2.length ≤ 4194304 := by omega
              clear hu hx hol2
              go_wp2_with (at_builtin; go_loud (refine wpList_app_out rfl _ _ rfl O2.out u rfl rfl hsq hob2 ?_); intro g5 cap5 w5 ho5 hg5 hat5; have O5 := Lib.hid ho5; have K5 := Lib.hid (show Kept w w5 from Below.grown (KQ.out.allocO _) hg5 (by simp; omega) (fun y hy => (O2.out.lt y hy).1)); have B5 := Lib.hid (show Blk w5 tb #[.int .u8 (t.lit.toNat : Int), .int .i64 k, .int .i64 d] 48 from (hg5.block tb (by simp; omega) (by simp [Value.ownBlock]; exact fun h => HG2.out h.symm)).trans (BQ.out.alloc _)); have N5 := Lib.hid (ne_at hat5 HG2.out htq); clear ho5 hg5 hat5)
              go_roundg (k - (i + 1))
              case measure => omega
              case rel => exact ⟨i + 1, g5, cap5, o2 ++ [u], rfl, by omega, by rw [ll], by go_num, by rw [ll]; exact O5.out, N5.out, by rw [ll, HOL.out]; omega, HC2, K5.out, B5.out⟩
            · obtain rfl : i = k := by omega
              have HF := Lib.hid (show o2 = copy d i o by rw [← HC.out, Nat.sub_self]; rfl)
              have HE3 := Lib.hid (show sizeGo (l.drop (j + 1)) o2.length = sizeGo l 0 ∧ expGo (l.drop (j + 1)) o2 = expGo l [] by
                rw [HF.out, copy_len]; exact HE2.out)
              have hob3 : o2.length ≤ 258 * (j + 1) := by omega
              have HOB := Lib.hid hob3
              clear hob3 hol2
              go_wp2_with fail
              go_roundg (l.length - (j + 1))
              case measure => omega
              case rel => exact ⟨j + 1, o2, some ⟨g2, 0, none⟩, cap2, rfl, by omega, rfl, by go_num, O2.out, HOB.out, HE3, KQ.out⟩
    · have HF := Lib.hid (show expandV l = .ok o by
        have h1 := HE.out.1
        have h2 := HE.out.2
        rw [List.drop_eq_nil_of_le (by omega)] at h1 h2
        have h1 : sizeGo l 0 = some o.length := h1.symm
        have h2 : o = expGo l [] := h2
        unfold expandV
        rw [h1]
        simp only
        rw [if_neg (by omega), ← h2])
      go_wp2_with fail
      go_ret2
      unfold ExpA
      rw [HF.out]
      exact ⟨HK.out, _, rfl, HO.out⟩

end Go.Proofs.Ytpplboihlndfpaa
