/-
  Tokens as bytes.
-/
import Derived.Test.YtpplboihlndfpaaDefRow
import Derived.Test.YtpplboihlndfpaaDefBit
namespace Go.Proofs.Ytpplboihlndfpaa
open Go.RowKit Dx
set_option linter.unusedSimpArgs false
set_option linter.unusedVariables false

theorem run_greatest3 {P : Program} {w : World} (ts : Array TypeId) (t : TypeId) (k k' : IntKind) (x y : Int) : (Builtin.max_ ts t #[.int k x, .int k' y]).run P w = .ok (.int k (max x y)) w := by
  rw [run_max_int2]; congr 2; split <;> omega
attribute [local go_sem ↓] run_greatest3

/-- May a token stand behind so many bytes? -/
def badT (t : Tok) (n : Nat) : Prop := t.len < 0 ∨ 258 < t.len ∨ 0 < t.len ∧ (t.dist < 1 ∨ (n : Int) < t.dist)
theorem sizeGo_bad {t : Tok} {r : List Tok} {n : Nat} (h : badT t n) : sizeGo (t :: r) n = none := by rw [sizeGo]; exact if_pos h
theorem sizeGo_good {t : Tok} {r : List Tok} {n : Nat} (h : ¬ badT t n) : sizeGo (t :: r) n = sizeGo r (n + max t.len.toNat 1) := by rw [sizeGo]; exact if_neg h
theorem sizeGo_ge : ∀ (l : List Tok) (n m : Nat), sizeGo l n = some m → n ≤ m
  | [], n, m, h => by injection h with h; omega
  | t :: r, n, m, h => by
    by_cases c : badT t n
    · rw [sizeGo_bad c] at h; cases h
    · rw [sizeGo_good c] at h
      have := sizeGo_ge r _ m h; omega
theorem good_cases {t : Tok} {n : Nat} (h : ¬ badT t n) : t.len = 0 ∨ ∃ k d : Nat, t.len = (k : Int) ∧ t.dist = (d : Int) ∧ 1 ≤ k ∧ k ≤ 258 ∧ 1 ≤ d ∧ d ≤ n := by
  unfold badT at h
  by_cases c : t.len = 0
  · exact .inl c
  · exact .inr ⟨t.len.toNat, t.dist.toNat, by omega, by omega, by omega, by omega, by omega, by omega⟩

/-- What size answers. -/
def SizeA (r : Option Nat) (e : Ending) : Prop := match r with
  | none => e = .returned (.tuple #[.int .i64 0, .int .i64 1])
  | some n => (1048576 < n → e = .returned (.tuple #[.int .i64 0, .int .i64 6])) ∧ (¬ 1048576 < n → e = .returned (.tuple #[.int .i64 n, .int .i64 0]))
theorem sizeA_none {r : Option Nat} {e : Ending} (h : r = none) (he : e = .returned (.tuple #[.int .i64 0, .int .i64 1])) : SizeA r e := by subst h; exact he
theorem sizeA_big {r : Option Nat} {e : Ending} {n : Nat} (h : r = some n) (hn : 1048576 < n) (he : e = .returned (.tuple #[.int .i64 0, .int .i64 6])) : SizeA r e := by
  subst h; exact ⟨fun _ => he, fun h => absurd hn h⟩
theorem sizeA_ok {r : Option Nat} {e : Ending} {n : Nat} (h : r = some n) (hn : ¬ 1048576 < n) (he : e = .returned (.tuple #[.int .i64 n, .int .i64 0])) : SizeA r e := by
  subst h; exact ⟨fun h => absurd h hn, fun _ => he⟩

set_option maxRecDepth 100000 in
set_option maxHeartbeats 4000000 in
theorem size_any (l : List Tok) (p : Option Addr) (c : Nat) (w : World) (h : TokR w w.heap.size p l) (hB : l.length ≤ 1099511627776) :
    Calls Try.prog 30 #[.slice p l.length c] w fun e w' => Kept w w' ∧ SizeA (sizeGo l 0) e := by
  have HT := Lib.hid h
  clear h
  go_enter Try.func30, Try.ntmps30
  go_wp2_with fail
  go_loopg [4, 9] l.length (fun m x y wr => ∃ (j n : Nat), m = l.length - j ∧ j ≤ l.length ∧ x = .int .i64 n ∧ y = .int .i64 j ∧ n ≤ 258 * j ∧ Hid (sizeGo (l.drop j) n = sizeGo l 0) ∧ Kept w wr)
  case atStart => exact ⟨0, 0, rfl, Nat.zero_le _, rfl, rfl, Nat.le_refl _, Lib.hid rfl, Kept.refl w⟩
  case round =>
    obtain ⟨j, n, hm, hj, rfl, rfl, hn, HS, hk⟩ := hrel
    have HK := Lib.hid hk
    clear hk
    by_cases hlt : j < l.length
    · have j1 : (j : Int) < (l.length : Int) := by omega
      obtain ⟨kb, o, hp, hkb, c0, c1, c2⟩ := (HT.out.keep (Nat.le_refl _) HK.out) j hlt
      subst hp
      have hdr : l.drop j = l[j] :: l.drop (j + 1) := List.drop_eq_getElem_cons hlt
      obtain ⟨t, ht⟩ : ∃ t, t = l[j] := ⟨_, rfl⟩
      rw [← ht] at c0 c1 c2 hdr
      have K2 := Lib.hid (show Kept w (wr.alloc (.cells #[.int .u8 (t.lit.toNat : Int), .int .i64 t.len, .int .i64 t.dist] 38)) from HK.out.allocO _)
      by_cases hbad : badT t n
      · have HV := Lib.hid (show sizeGo l 0 = none by rw [← HS.out, hdr]; exact sizeGo_bad hbad)
        unfold badT at hbad
        clear ht hdr
        rcases (show t.len < 0 ∨ (¬ t.len < 0 ∧ 258 < t.len) ∨ (¬ t.len < 0 ∧ ¬ 258 < t.len ∧ 0 < t.len ∧ t.dist < 1) ∨ (¬ t.len < 0 ∧ ¬ 258 < t.len ∧ 0 < t.len ∧ ¬ t.dist < 1 ∧ (n : Int) < t.dist) by omega) with b1 | ⟨b1, b2⟩ | ⟨b1, b2, b3, b4⟩ | ⟨b1, b2, b3, b4, b5⟩
        all_goals
          clear hbad
          go_wp2_with fail
          go_ret2
          exact ⟨K2.out, sizeA_none HV.out rfl⟩
      · have HV := Lib.hid (show sizeGo (l.drop (j + 1)) (n + max t.len.toNat 1) = sizeGo l 0 by rw [← HS.out, hdr]; exact (sizeGo_good hbad).symm)
        rcases good_cases hbad with h0 | ⟨k, d, hk, hd, k1, k2, d1, d2⟩
        · rw [h0] at c1 K2 HV
          have m1 : max (0 : Int) 1 = 1 := by decide
          have HV2 := Lib.hid (show sizeGo (l.drop (j + 1)) (n + 1) = sizeGo l 0 from HV.out)
          clear ht hdr hbad h0
          go_wp2_with fail
          go_roundg (l.length - (j + 1))
          case measure => omega
          case rel => exact ⟨j + 1, n + 1, rfl, by omega, by go_num, by go_num, by omega, Lib.hid HV2.out, K2.out⟩
        · rw [hk, hd] at K2
          rw [hk] at c1 HV
          rw [hd] at c2
          have m1 : max (k : Int) 1 = (k : Int) := by omega
          have HV2 := Lib.hid (show sizeGo (l.drop (j + 1)) (n + k) = sizeGo l 0 by
            have := HV.out
            rw [Int.toNat_natCast, show max k 1 = k by omega] at this; exact this)
          have q1 : ¬ (k : Int) < 0 := by omega
          have q2 : ¬ (258 : Int) < (k : Int) := by omega
          have q3 : (0 : Int) < (k : Int) := by omega
          have q4 : ¬ (d : Int) < 1 := by omega
          have q5 : ¬ (n : Int) < (d : Int) := by omega
          clear ht hdr hbad hk hd
          go_wp2_with fail
          go_roundg (l.length - (j + 1))
          case measure => omega
          case rel => exact ⟨j + 1, n + k, rfl, by omega, by go_num, by go_num, by omega, Lib.hid HV2.out, K2.out⟩
    · obtain rfl : j = l.length := by omega
      have HV := Lib.hid (show sizeGo l 0 = some n by rw [← HS.out, List.drop_length]; rfl)
      by_cases hbig : 1048576 < n
      · have i1 : (1048576 : Int) < (n : Int) := by omega
        go_wp2_with fail
        go_ret2
        exact ⟨HK.out, sizeA_big HV.out hbig rfl⟩
      · have i1 : ¬ (1048576 : Int) < (n : Int) := by omega
        go_wp2_with fail
        go_ret2
        exact ⟨HK.out, sizeA_ok HV.out hbig rfl⟩

theorem ne_at {g2 g5 tb N n c : Nat} (hat : (Value.slice (some ⟨g2, 0, none⟩) n c).ownBlock = some g5 ∨ g5 = N + 1) (h : g2 ≠ tb) (ht : tb < N) : g5 ≠ tb := by
  rcases hat with e | e
  · have e : g2 = g5 := Option.some.inj e
    omega
  · omega
/-- What Expand leaves. -/
def ExpA (w : World) (r : Except Int (List UInt8)) (e : Ending) (w' : World) : Prop := Kept w w' ∧ match r with
  | .error k => e = .returned (.tuple #[.slice none 0 0, .int .i64 k])
  | .ok o => ∃ v, e = .returned (.tuple #[v, .int .i64 0]) ∧ Out w' w.heap.size v o

set_option maxRecDepth 100000 in
set_option maxHeartbeats 4000000 in
theorem Expand_any (l : List Tok) (p : Option Addr) (c : Nat) (w : World) (h : TokR w w.heap.size p l) (hB : l.length ≤ 1099511627776) :
    Calls Try.prog 17 #[.slice p l.length c] w (ExpA w (expandV l)) := by
  have HT := Lib.hid h
  have SZ := Lib.hid (size_any l p c w h hB)
  clear h
  go_enter Try.func17, Try.ntmps17
  go_wp2_with fail
  (with_reducible refine SZ.out.mono ?_)
  rintro e w1 ⟨hk1, hr⟩
  have K1 := Lib.hid hk1
  have hs1 := Below.size hk1
  clear hk1
  cases hS : sizeGo l 0 with
  | none =>
    rw [hS] at hr
    have hr : e = _ := hr
    subst hr
    have HV := Lib.hid (show expandV l = .error 1 by unfold expandV; rw [hS])
    clear hS
    go_wp2_with fail
    go_ret2
    unfold ExpA
    rw [HV.out]
    exact ⟨K1.out, rfl⟩
  | some n =>
    rw [hS] at hr
    by_cases hbig : 1048576 < n
    · have hr := hr.1 hbig
      subst hr
      have HV := Lib.hid (show expandV l = .error 6 by unfold expandV; rw [hS]; simp only; rw [if_pos hbig])
      clear hS
      go_wp2_with fail
      go_ret2
      unfold ExpA
      rw [HV.out]
      exact ⟨K1.out, rfl⟩
    · have hr := hr.2 hbig
      subst hr
      have HV := Lib.hid (show expandV l = .ok (expGo l []) by unfold expandV; rw [hS]; simp only; rw [if_neg hbig])
      have HSZ := Lib.hid hS
      have hn : n ≤ 1048576 := by omega
      obtain ⟨i0', hi, hz0, hz1, hz2⟩ := info_parts info_byte
      clear hS hbig
      go_wp2_with (at_make; go_loud (refine wpList_make_own _ rfl _ _ 22 rfl w.heap.size 5 i0' (.int .u8 0) 1 Try.underlying22 hi hz0 hz1 .i64 .i64 _ n rfl rfl rfl (by rw [hz2]; omega) (by unfold maxLen; omega) hs1 ?_); intro w4 hown hgrow; have O4 := Lib.hid (show Out w4 w.heap.size _ [] from hown); have K4 := Lib.hid (show Kept w w4 from Below.grown K1.out hgrow hs1 (fun k h => by cases h)); clear hown hgrow)
      obtain ⟨gb, hgb⟩ : ∃ gb, gb = w1.heap.size := ⟨_, rfl⟩
      rw [← hgb] at O4 ⊢
      clear hgb
      go_loopg [6, 21] l.length (fun m x y wr => ∃ (j : Nat) (o : List UInt8) (g cap : Nat), m = l.length - j ∧ j ≤ l.length ∧ x = .slice (some ⟨g, 0, none⟩) o.length cap ∧ y = .int .i64 j ∧ Out wr w.heap.size (.slice (some ⟨g, 0, none⟩) o.length cap) o ∧ Hid (sizeGo (l.drop j) o.length = some n ∧ expGo (l.drop j) o = expGo l []) ∧ Kept w wr)
      case atStart => exact ⟨0, [], gb, n, rfl, Nat.zero_le _, rfl, rfl, O4.out, Lib.hid ⟨HSZ.out, rfl⟩, K4.out⟩
      case round =>
        obtain ⟨j, o, g, cap, hm, hj, rfl, rfl, ho, HE, hk⟩ := hrel
        have HO := Lib.hid ho
        have HK := Lib.hid hk
        have hsr := Below.size hk
        have hol := sizeGo_ge _ _ _ HE.out.1
        clear ho hk
        by_cases hlt : j < l.length
        · have j1 : (j : Int) < (l.length : Int) := by omega
          obtain ⟨kb, ofs, hp, hkb, c0, c1, c2⟩ := (HT.out.keep (Nat.le_refl _) HK.out) j hlt
          subst hp
          have hdr : l.drop j = l[j] :: l.drop (j + 1) := List.drop_eq_getElem_cons hlt
          obtain ⟨t, ht⟩ : ∃ t, t = l[j] := ⟨_, rfl⟩
          rw [← ht] at c0 c1 c2 hdr
          have hgood : ¬ badT t o.length := fun hb => by
            have := HE.out.1
            rw [hdr, sizeGo_bad hb] at this; cases this
          have hE1 : sizeGo (l.drop (j + 1)) (o.length + max t.len.toNat 1) = some n := by
            have := HE.out.1
            rw [hdr, sizeGo_good hgood] at this; exact this
          have hE2 : expGo (l.drop (j + 1)) (if t.len = 0 then o ++ [t.lit] else copy t.dist.toNat t.len.toNat o) = expGo l [] := by
            have := HE.out.2
            rw [hdr, expGo] at this; exact this
          have KA := Lib.hid (show Kept wr (wr.alloc (.cells #[.int .u8 (t.lit.toNat : Int), .int .i64 t.len, .int .i64 t.dist] 38)) from (Kept.refl wr).allocO _)
          have BA := Lib.hid (Blk.fresh wr #[.int .u8 (t.lit.toNat : Int), .int .i64 t.len, .int .i64 t.dist] 38)
          have OA := Lib.hid (HO.out.kept KA.out)
          rcases good_cases hgood with h0 | ⟨k, d, hkk, hdd, k1, k2, d1, d2⟩
          · rw [h0] at c1 KA BA OA hE1 hE2
            have HE2 := Lib.hid (show sizeGo (l.drop (j + 1)) (o ++ [t.lit]).length = some n ∧ expGo (l.drop (j + 1)) (o ++ [t.lit]) = expGo l [] by
              rw [List.length_append]; exact ⟨hE1, hE2⟩)
            have ll : (o ++ [t.lit]).length = o.length + 1 := by simp
            obtain ⟨x, hx⟩ : ∃ x, x = t.lit := ⟨_, rfl⟩
            rw [← hx] at c0 KA BA OA HE2 ll
            clear ht hdr hgood hE1 hE2 h0 hx
            go_upto_region 8 with fail
            obtain ⟨W3, hW3⟩ : ∃ W3, W3 = wr.alloc (.cells #[.int .u8 (x.toNat : Int), .int .i64 0, .int .i64 t.dist] 38) := ⟨_, rfl⟩
            rw [← hW3] at KA BA OA ⊢
            obtain ⟨tb, htb⟩ : ∃ tb, tb = wr.heap.size := ⟨_, rfl⟩
            rw [← htb] at BA ⊢
            have HTB := Lib.hid htb
            have HGT := Lib.hid (show g ≠ tb by have := (HO.out.lt g rfl).2; omega)
            obtain ⟨e0, e1, e2⟩ := BA.out.cells3
            have hs3 := Below.size KA.out
            have htl : tb < W3.heap.size := BA.out.lt
            have B5 := Lib.hid (BA.out.alloc (.cells #[.int .u8 (x.toNat : Int)] 5))
            clear hW3 htb c0 c1 c2
            go_wp2_with (at_builtin; go_loud (refine wpList_app_out rfl _ _ rfl OA.out x rfl rfl (by omega) (by omega) ?_); intro g5 cap5 w5 ho5 hg5 hat5; have O5 := Lib.hid ho5; go_loud (have K5 := Lib.hid (show Kept w w5 from Below.grown ((HK.out.trans KA.out).allocO _) hg5 (by simp; omega) (fun y hy => (OA.out.lt y hy).1))); go_loud (have F5 := (show w5.cell? ⟨tb, 1, none⟩ = some (.int .i64 0) from by rw [← e1]; exact (World.cell?_of_block (hg5.block tb (by simp; omega) (by simp [Value.ownBlock]; exact fun h => HGT.out h.symm))).trans (World.cell?_of_block (Below.heap_alloc W3 _ tb BA.out.lt)))); clear ho5 hg5 hat5)
            go_loopg [6, 35] 0 (fun m a b wq => m = 0 ∧ a = .slice (some ⟨g5, 0, none⟩) (o.length + 1) cap5 ∧ b = .int .i64 0 ∧ w5 = wq)
            case atStart => exact ⟨rfl, rfl, rfl, rfl⟩
            case round =>
              obtain ⟨-, rfl, rfl, rfl⟩ := hrel
              go_wp2_with fail
              go_roundg (l.length - (j + 1))
              case measure => omega
              case rel => exact ⟨j + 1, o ++ [x], g5, cap5, rfl, by omega, by rw [ll], by go_num, by rw [ll]; exact O5.out, HE2, K5.out⟩
          · have HE2 := Lib.hid (show sizeGo (l.drop (j + 1)) (o.length + k) = some n ∧ expGo (l.drop (j + 1)) (copy d k o) = expGo l [] by
              rw [hkk, Int.toNat_natCast, show max k 1 = k by omega] at hE1
              rw [hkk, hdd, if_neg (by omega), Int.toNat_natCast, Int.toNat_natCast] at hE2
              exact ⟨hE1, hE2⟩)
            have hnk := sizeGo_ge _ _ _ HE2.out.1
            rw [hkk, hdd] at KA BA OA
            rw [hkk] at c1
            rw [hdd] at c2
            have q0 : ((k : Int) == 0) = false := by rw [beq_eq_false_iff_ne]; omega
            clear ht hdr hgood hE1 hE2 hkk hdd
            go_upto_region 8 with fail
            obtain ⟨W3, hW3⟩ : ∃ W3, W3 = wr.alloc (.cells #[.int .u8 (t.lit.toNat : Int), .int .i64 k, .int .i64 d] 38) := ⟨_, rfl⟩
            rw [← hW3] at KA BA OA ⊢
            obtain ⟨tb, htb⟩ : ∃ tb, tb = wr.heap.size := ⟨_, rfl⟩
            rw [← htb] at BA ⊢
            have HTB := Lib.hid htb
            have HGT := Lib.hid (show g ≠ tb by have := (HO.out.lt g rfl).2; omega)
            obtain ⟨e0, e1, e2⟩ := BA.out.cells3
            have hs3 := Below.size KA.out
            have htl : tb < W3.heap.size := BA.out.lt
            have K3 := Lib.hid (HK.out.trans KA.out)
            have hs3w := Below.size K3.out
            clear hW3 htb c0 c1 c2
            go_wp2_with fail
            go_loopg [6, 35] k (fun m a b wq => ∃ (i g2 cap2 : Nat) (o2 : List UInt8), m = k - i ∧ i ≤ k ∧ a = .slice (some ⟨g2, 0, none⟩) o2.length cap2 ∧ b = .int .i64 i ∧ Out wq w.heap.size (.slice (some ⟨g2, 0, none⟩) o2.length cap2) o2 ∧ g2 ≠ tb ∧ o2.length = o.length + i ∧ Hid (copy d (k - i) o2 = copy d k o) ∧ Kept w wq ∧ Blk wq tb #[.int .u8 (t.lit.toNat : Int), .int .i64 k, .int .i64 d] 38)
            case atStart => exact ⟨0, g, cap, o, rfl, Nat.zero_le _, rfl, rfl, OA.out, HGT.out, rfl, Lib.hid rfl, K3.out, BA.out⟩
            case round =>
              obtain ⟨i, g2, cap2, o2, hmi, hik, rfl, rfl, ho2, hg2, hol2, HC, hkq, hbq⟩ := hrel
              have O2 := Lib.hid ho2
              have KQ := Lib.hid hkq
              have BQ := Lib.hid hbq
              have hsq := Below.size hkq
              obtain ⟨e0, e1, e2⟩ := hbq.cells3
              have htq := hbq.lt
              clear ho2 hkq hbq
              by_cases hik2 : i < k
              · have j2 : (i : Int) < (k : Int) := by omega
                obtain ⟨x, hx⟩ : ∃ x, x = o2.length - d := ⟨_, rfl⟩
                have hxl : x < o2.length := by omega
                have z1 : (o2.length : Int) - (d : Int) = (x : Int) := by omega
                have z2 : IntKind.i64.wrap (x : Int) = (x : Int) := IntWalk.i64_in _ (by omega)
                have z3 : (x : Int) < (o2.length : Int) := by omega
                have cx := O2.out.cellO x hxl
                obtain ⟨u, hu⟩ : ∃ u, u = o2.getD x 0 := ⟨_, rfl⟩
                rw [← hu] at cx
                have HC2 := Lib.hid (show copy d (k - (i + 1)) (o2 ++ [u]) = copy d k o by
                  rw [← HC.out, show k - i = (k - (i + 1)) + 1 by omega, copy, hu, hx]; rfl)
                have ll : (o2 ++ [u]).length = o2.length + 1 := by simp
                have hob : o2.length + 1 ≤ 1099511627776 := by omega
                have HG2 := Lib.hid hg2
                have HOL := Lib.hid hol2
                have hos : o2.length ≤ 4194304 := by omega
                clear hu hx hol2
                go_wp2_with (at_builtin; go_loud (refine wpList_app_out rfl _ _ rfl O2.out u rfl rfl hsq hob ?_); intro g5 cap5 w5 ho5 hg5 hat5; have O5 := Lib.hid ho5; have K5 := Lib.hid (show Kept w w5 from Below.grown (KQ.out.allocO _) hg5 (by simp; omega) (fun y hy => (O2.out.lt y hy).1)); have B5 := Lib.hid (show Blk w5 tb #[.int .u8 (t.lit.toNat : Int), .int .i64 k, .int .i64 d] 38 from (hg5.block tb (by simp; omega) (by simp [Value.ownBlock]; exact fun h => HG2.out h.symm)).trans (BQ.out.alloc _)); have N5 := Lib.hid (ne_at hat5 HG2.out htq); clear ho5 hg5 hat5)
                go_roundg (k - (i + 1))
                case measure => omega
                case rel => exact ⟨i + 1, g5, cap5, o2 ++ [u], rfl, by omega, by rw [ll], by go_num, by rw [ll]; exact O5.out, N5.out, by rw [ll, HOL.out]; omega, HC2, K5.out, B5.out⟩
              · obtain rfl : i = k := by omega
                have HF := Lib.hid (show o2 = copy d i o by rw [← HC.out, Nat.sub_self]; rfl)
                have HE3 := Lib.hid (show sizeGo (l.drop (j + 1)) o2.length = some n ∧ expGo (l.drop (j + 1)) o2 = expGo l [] by
                  rw [HF.out, copy_len]; exact HE2.out)
                go_wp2_with fail
                go_roundg (l.length - (j + 1))
                case measure => omega
                case rel => exact ⟨j + 1, o2, g2, cap2, rfl, by omega, rfl, by go_num, O2.out, HE3, KQ.out⟩
        · have HF := Lib.hid (show o = expGo l [] by
            have := HE.out.2
            rw [List.drop_eq_nil_of_le (by omega)] at this; exact this)
          go_wp2_with fail
          go_ret2
          unfold ExpA
          rw [HV.out]
          exact ⟨HK.out, _, rfl, by rw [← HF.out]; exact HO.out⟩

end Go.Proofs.Ytpplboihlndfpaa
