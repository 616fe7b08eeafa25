/-
  The reference's Encode.
-/
import Derived.Test.YtkgaddlclfjkmaaMetRefBytes
import Derived.Test.YtkgaddlclfjkmaaMetricBackWalk
namespace Go.Proofs.Ytkgaddlclfjkmaa
open Go.RowKit
set_option linter.unusedSimpArgs false
set_option linter.unusedVariables false

theorem OwB.lit (W : World) {B0 : Nat} (hB : B0 ≤ W.heap.size) (l : List UInt8) (h : l.length ≤ 1000) : OwB (W.alloc (.cells (Lib.byteCells l).toArray 5)) B0 (.slice (some ⟨W.heap.size, 0, none⟩) l.length l.length) l := by
  have z := World.ownsRow_lit (base := B0) (e := 5) (size := 1) W (Lib.byteCells l).toArray l.length hB (by unfold maxLen; omega) (by simp [Lib.byteCells])
  unfold OwB
  simpa using z
theorem OwB.kept {w w' : World} {B : Nat} {v : Value} {l : List UInt8} (h : OwB w B v l) (k : Kept w w') : OwB w' B v l :=
  h.gb (r := none) ⟨k.os, k.tape, k.output, k.size, fun j hj _ => k.block j hj⟩ (by cases hv : v.ownBlock with
    | none => exact .inl rfl
    | some g => exact .inr (by simp))
theorem OwR.cellAt' {w : World} {B c kb : Nat} {l : List Nat} (h : OwR w B (.slice (some ⟨kb, 0, none⟩) l.length c) l) (j : Nat) (hj : j < l.length) : w.cell? ⟨kb, j, none⟩ = some (.int .i32 (l[j] : Nat)) := by
  obtain ⟨p, c', he, -, hc⟩ := h.shape
  obtain ⟨k, hp, -, -, hcell⟩ := hc j hj
  injection he with e1 _ _
  rw [hp] at e1
  injection e1 with e2
  injection e2 with e3 _ _
  rw [e3]; exact hcell

set_option maxRecDepth 100000 in
set_option maxHeartbeats 8000000 in
theorem REncode_pairs (u : ByteArray) (w : World) (hu : u.size ≤ 268435000) (hn : (Mt.bytesB u.data.toList && !Mt.marked (Mt.bytesV u.data.toList)) = false) :
    Calls Try.prog 20 #[.string u] w fun e w' => e = .returned (.string ⟨(254 :: 255 :: Mt.pairs (Mt.runes u.data.toList)).toArray⟩) ∧ Kept w w' := by
  have HBY := Lib.hid (RBytes_any u w (by omega))
  have CR := Lib.hid (fun wx => Runes_any u wx (by omega))
  obtain ⟨L, hL⟩ : ∃ L, L = u.data.toList := ⟨_, rfl⟩
  have hlen : L.length = u.size := by rw [hL]; simp
  rw [← hL] at HBY CR hn ⊢
  obtain ⟨R, hR⟩ : ∃ R, R = Mt.runes L := ⟨_, rfl⟩
  have hRl : R.length ≤ 268435000 := by rw [hR]; have := Mt.runes_len L; omega
  have HOK := Lib.hid (show ∀ r ∈ R, Mt.okR r by rw [hR]; exact Mt.runes_ok L)
  rw [← hR] at CR
  have HR := Lib.hid hR
  obtain ⟨S, hS⟩ : ∃ S : ByteArray, S = ⟨(Mt.bytesV L).toArray⟩ := ⟨_, rfl⟩
  have HW := Mt.marked_ways S
  rw [show S.data.toList = Mt.bytesV L by rw [hS]] at HW
  obtain ⟨ok, hok⟩ : ∃ ok, ok = Mt.bytesB L := ⟨_, rfl⟩
  rw [← hok] at hn
  rw [← hS, ← hok] at HBY
  clear hS hok hL hlen hR
  cases ok
  · clear HW hn
    go_enter Try.func20, Try.ntmps20
    go_wp2_with fail
    (with_reducible refine HBY.out.mono ?_)
    rintro e w1 ⟨rfl, hk1⟩
    have K1 := Lib.hid hk1
    clear hk1
    go_wp2_with fail
    have hs1 : w.heap.size ≤ w1.heap.size := Below.size K1.out
    have OL := Lib.hid (OwB.lit w1 hs1 [254, 255] (by decide))
    (with_reducible refine (CR.out _).mono ?_)
    rintro e w2 ⟨v2, rfl, ho2, hk2⟩
    have K2 := Lib.hid (show Kept w w2 from (K1.out.alloc _ _).trans hk2)
    have OB := Lib.hid (OL.out.kept hk2)
    have O2 := Lib.hid ho2
    obtain ⟨p, c, rfl, hpc, -⟩ := ho2.shape
    obtain ⟨B1, hB1⟩ : ∃ B1, B1 = (w1.alloc (.cells #[.int .u8 254, .int .u8 255] 5)).heap.size := ⟨_, rfl⟩
    rw [← hB1] at O2
    obtain ⟨n, hn⟩ : ∃ n, n = R.length := ⟨_, rfl⟩
    have hRn : n ≤ 268435000 := by rw [hn]; exact hRl
    have HN := Lib.hid hn
    clear ho2 hk2 hpc hB1
    rw [← hn]
    clear hn
    go_wp2_with fail
    go_loopg [5, 7] (n + 1) (fun m x y wr => ∃ (j : Nat) (vv : Value), m = n - j + 1 ∧ vv = x ∧ y = .int .i64 j ∧ j ≤ n ∧ OwB wr w.heap.size vv (254 :: 255 :: Mt.pairs (R.take j)) ∧ OwR wr B1 (.slice p R.length c) R ∧ Kept w wr)
    case atStart => exact ⟨0, _, rfl, rfl, rfl, Nat.zero_le _, OB.out, O2.out, K2.out⟩
    case round =>
      obtain ⟨j, vv, hm, rfl, rfl, hj, hb, ho, hk⟩ := hrel
      have HB := Lib.hid hb
      have HO := Lib.hid ho
      have HK := Lib.hid hk
      by_cases hlt : j < n
      · have hlt2 : j < R.length := by rw [← HN.out]; exact hlt
        obtain ⟨p', c', hpe, -, hcells⟩ := ho.shape
        obtain ⟨hp1, hp2⟩ : p = p' ∧ c = c' := by injection hpe with e1 e2 e3; exact ⟨e1, e3⟩
        subst hp1 hp2
        obtain ⟨kb, rfl, hkB, hkl, hc⟩ := hcells j hlt2
        obtain ⟨r, hr⟩ : ∃ r, r = R[j] := ⟨_, rfl⟩
        rw [← hr] at hc
        have hrk := HOK.out r (by rw [hr]; exact List.getElem_mem hlt2)
        have hr1 : r ≤ 1114111 := by unfold Mt.okR at hrk; omega
        have HT := Lib.hid (show Mt.pairs (R.take (j + 1)) = Mt.pairs (R.take j) ++ Mt.pairs1 r by
          rw [hr, List.take_succ_eq_append_getElem hlt2, Mt.pairs_append]
          show _ ++ (Mt.pairs1 R[j] ++ []) = _
          rw [List.append_nil])
        have hj0 : (0 : Int) ≤ (j : Int) := by omega
        have hsz := Below.size HK.out
        have htl : (254 :: 255 :: Mt.pairs (R.take j)).length + 2 ≤ 1099511627776 := by
          have := Mt.pairs_len (R.take j)
          rw [List.length_take] at this
          have := Nat.min_le_left j R.length
          simp only [List.length_cons]; omega
        obtain ⟨z, hz⟩ : ∃ z : Int, z = (r : Int) := ⟨_, rfl⟩
        rw [← hz] at hc
        clear hb ho hk hcells hpe hrk hr
        by_cases hbig : z ≤ 65535
        · obtain ⟨c1, hc1⟩ : ∃ c1 : UInt8, c1 = (r / 256).toUInt8 := ⟨_, rfl⟩
          obtain ⟨c2, hc2⟩ : ∃ c2 : UInt8, c2 = (r % 256).toUInt8 := ⟨_, rfl⟩
          have HP := Lib.hid (show Mt.pairs1 r = [c1, c2] by unfold Mt.pairs1; rw [if_pos (by omega), hc1, hc2]; rfl)
          have q1 : z / 256 = (c1.toNat : Int) := by rw [hc1, Mt.u8_lit _ (by omega)]; omega
          have q2 : z % 256 = (c2.toNat : Int) := by rw [hc2, Mt.u8_lit _ (by omega)]; omega
          have b1 := c1.toNat_lt
          have b2 := c2.toNat_lt
          have q3 : (c1.toNat : Int) % 256 = (c1.toNat : Int) := by omega
          have q4 : (c2.toNat : Int) % 256 = (c2.toNat : Int) := by omega
          have z0 : 0 ≤ z := by omega
          have z1 : ¬ 65535 < z := by omega
          clear hc1 hc2 hz b1 b2 hbig hr1
          go_wp2_with (at_builtin; refine wpList_app_bv rfl _ _ rfl (.inl HB.out) rfl [c1, c2] _ rfl 2 rfl (by decide) rfl hsz htl ?_; intro v' w3 hb3)
          have B3 := Lib.hid hb3
          clear hb3
          go_roundg (n - (j + 1) + 1)
          case measure => omega
          case rel =>
            refine ⟨j + 1, v', rfl, rfl, by go_num, by omega, ?_, HO.out.oth B3.out.2.2, Below.trans HK.out B3.out.2.1⟩
            rw [HT.out, HP.out]; exact B3.out.1
        · obtain ⟨a, ha⟩ : ∃ a : Nat, a = 55296 + (r - 65536) / 1024 := ⟨_, rfl⟩
          obtain ⟨b, hb⟩ : ∃ b : Nat, b = 56320 + (r - 65536) % 1024 := ⟨_, rfl⟩
          obtain ⟨c1, hc1⟩ : ∃ c1 : UInt8, c1 = (a / 256).toUInt8 := ⟨_, rfl⟩
          obtain ⟨c2, hc2⟩ : ∃ c2 : UInt8, c2 = (a % 256).toUInt8 := ⟨_, rfl⟩
          obtain ⟨d1, hd1⟩ : ∃ d1 : UInt8, d1 = (b / 256).toUInt8 := ⟨_, rfl⟩
          obtain ⟨d2, hd2⟩ : ∃ d2 : UInt8, d2 = (b % 256).toUInt8 := ⟨_, rfl⟩
          have HP := Lib.hid (show Mt.pairs1 r = [c1, c2] ++ [d1, d2] by unfold Mt.pairs1; rw [if_neg (by omega), ← ha, ← hb, hc1, hc2, hd1, hd2]; rfl)
          obtain ⟨y, hy⟩ : ∃ y : Int, y = z - 65536 := ⟨_, rfl⟩
          obtain ⟨za, hza⟩ : ∃ za : Int, za = (a : Int) := ⟨_, rfl⟩
          obtain ⟨zb, hzb⟩ : ∃ zb : Int, zb = (b : Int) := ⟨_, rfl⟩
          have e1 : z - 65536 = y := hy.symm
          have e2 : 55296 + y / 1024 = za := by omega
          have e3 : 56320 + y % 1024 = zb := by omega
          have q1 : za / 256 = (c1.toNat : Int) := by rw [hc1, Mt.u8_lit _ (by omega)]; omega
          have q2 : za % 256 = (c2.toNat : Int) := by rw [hc2, Mt.u8_lit _ (by omega)]; omega
          have r1 : zb / 256 = (d1.toNat : Int) := by rw [hd1, Mt.u8_lit _ (by omega)]; omega
          have r2 : zb % 256 = (d2.toNat : Int) := by rw [hd2, Mt.u8_lit _ (by omega)]; omega
          have b1 := c1.toNat_lt
          have b2 := c2.toNat_lt
          have b3 := d1.toNat_lt
          have b4 := d2.toNat_lt
          have q3 : (c1.toNat : Int) % 256 = (c1.toNat : Int) := by omega
          have q4 : (c2.toNat : Int) % 256 = (c2.toNat : Int) := by omega
          have r3 : (d1.toNat : Int) % 256 = (d1.toNat : Int) := by omega
          have r4 : (d2.toNat : Int) % 256 = (d2.toNat : Int) := by omega
          have z0 : 65535 < z := by omega
          have z1 : z ≤ 1114111 := by omega
          have y0 : 0 ≤ y := by omega
          have y1 : y ≤ 1048575 := by omega
          have a0 : 0 ≤ za := by omega
          have a1 : za ≤ 65535 := by omega
          have c0 : 0 ≤ zb := by omega
          have c9 : zb ≤ 65535 := by omega
          have htl2 : (254 :: 255 :: Mt.pairs (R.take j) ++ [c1, c2]).length + 2 ≤ 1099511627776 := by
            have := Mt.pairs_len (R.take j)
            rw [List.length_take] at this
            have := Nat.min_le_left j R.length
            simp only [List.length_append, List.length_cons, List.length_nil]; omega
          clear hc1 hc2 hd1 hd2 ha hb hz b1 b2 b3 b4 hbig hr1 hy hza hzb
          go_wp2_with (first | (at_builtin; refine wpList_app_bv rfl _ _ rfl (.inl HB.out) rfl [c1, c2] _ rfl 2 rfl (by decide) rfl hsz htl ?_; intro v' w3 hb3; have B3 := Lib.hid hb3; have hc3 := (HO.out.oth hb3.2.2).cellAt' j hlt2; clear hb3) | (at_builtin; refine wpList_app_bv rfl _ _ rfl (.inl B3.out.1) rfl [d1, d2] _ rfl 2 rfl (by decide) rfl (Nat.le_trans hsz (Below.size (Below.mono B3.out.2.1 (Nat.le_refl _)))) htl2 ?_; intro v' w4 hb4))
          have B4 := Lib.hid hb4
          clear hb4
          go_roundg (n - (j + 1) + 1)
          case measure => omega
          case rel =>
            refine ⟨j + 1, v', rfl, rfl, by go_num, by omega, ?_, (HO.out.oth B3.out.2.2).oth B4.out.2.2, Below.trans HK.out (Below.trans B3.out.2.1 B4.out.2.1)⟩
            rw [HT.out, HP.out]
            have := B4.out.1
            rw [List.append_assoc] at this
            exact this
      · obtain rfl : j = n := by omega
        have hT : R.take j = R := by rw [HN.out, List.take_length]
        rw [hT] at hb
        have hst := hb.string
        clear hT hb ho hk
        go_wp2_with fail
        go_ret
        exact ⟨by rw [← HR.out]; rfl, HK.out⟩
  · rcases HW with ⟨hmk, hsz, h0, h1⟩ | ⟨hmk, -⟩
    case true.inr => rw [hmk] at hn; exact absurd hn (by decide)
    have y0 : (1 : Int) < (S.size : Int) := by omega
    have y1 : (0 : Int) < (S.size : Int) := by omega
    have b0 := Mt.byte_is h0 254 rfl
    have b1 := Mt.byte_is h1 255 rfl
    clear hmk h0 h1 hn
    go_enter Try.func20, Try.ntmps20
    go_wp2_with fail
    (with_reducible refine HBY.out.mono ?_)
    rintro e w1 ⟨rfl, hk1⟩
    have K1 := Lib.hid hk1
    clear hk1
    go_wp2_with fail
    have hs1 : w.heap.size ≤ w1.heap.size := Below.size K1.out
    have OL := Lib.hid (OwB.lit w1 hs1 [254, 255] (by decide))
    (with_reducible refine (CR.out _).mono ?_)
    rintro e w2 ⟨v2, rfl, ho2, hk2⟩
    have K2 := Lib.hid (show Kept w w2 from (K1.out.alloc _ _).trans hk2)
    have OB := Lib.hid (OL.out.kept hk2)
    have O2 := Lib.hid ho2
    obtain ⟨p, c, rfl, hpc, -⟩ := ho2.shape
    obtain ⟨B1, hB1⟩ : ∃ B1, B1 = (w1.alloc (.cells #[.int .u8 254, .int .u8 255] 5)).heap.size := ⟨_, rfl⟩
    rw [← hB1] at O2
    obtain ⟨n, hn⟩ : ∃ n, n = R.length := ⟨_, rfl⟩
    have hRn : n ≤ 268435000 := by rw [hn]; exact hRl
    have HN := Lib.hid hn
    clear ho2 hk2 hpc hB1
    rw [← hn]
    clear hn
    go_wp2_with fail
    go_loopg [5, 7] (n + 1) (fun m x y wr => ∃ (j : Nat) (vv : Value), m = n - j + 1 ∧ vv = x ∧ y = .int .i64 j ∧ j ≤ n ∧ OwB wr w.heap.size vv (254 :: 255 :: Mt.pairs (R.take j)) ∧ OwR wr B1 (.slice p R.length c) R ∧ Kept w wr)
    case atStart => exact ⟨0, _, rfl, rfl, rfl, Nat.zero_le _, OB.out, O2.out, K2.out⟩
    case round =>
      obtain ⟨j, vv, hm, rfl, rfl, hj, hb, ho, hk⟩ := hrel
      have HB := Lib.hid hb
      have HO := Lib.hid ho
      have HK := Lib.hid hk
      by_cases hlt : j < n
      · have hlt2 : j < R.length := by rw [← HN.out]; exact hlt
        obtain ⟨p', c', hpe, -, hcells⟩ := ho.shape
        obtain ⟨hp1, hp2⟩ : p = p' ∧ c = c' := by injection hpe with e1 e2 e3; exact ⟨e1, e3⟩
        subst hp1 hp2
        obtain ⟨kb, rfl, hkB, hkl, hc⟩ := hcells j hlt2
        obtain ⟨r, hr⟩ : ∃ r, r = R[j] := ⟨_, rfl⟩
        rw [← hr] at hc
        have hrk := HOK.out r (by rw [hr]; exact List.getElem_mem hlt2)
        have hr1 : r ≤ 1114111 := by unfold Mt.okR at hrk; omega
        have HT := Lib.hid (show Mt.pairs (R.take (j + 1)) = Mt.pairs (R.take j) ++ Mt.pairs1 r by
          rw [hr, List.take_succ_eq_append_getElem hlt2, Mt.pairs_append]
          show _ ++ (Mt.pairs1 R[j] ++ []) = _
          rw [List.append_nil])
        have hj0 : (0 : Int) ≤ (j : Int) := by omega
        have hsz := Below.size HK.out
        have htl : (254 :: 255 :: Mt.pairs (R.take j)).length + 2 ≤ 1099511627776 := by
          have := Mt.pairs_len (R.take j)
          rw [List.length_take] at this
          have := Nat.min_le_left j R.length
          simp only [List.length_cons]; omega
        obtain ⟨z, hz⟩ : ∃ z : Int, z = (r : Int) := ⟨_, rfl⟩
        rw [← hz] at hc
        clear hb ho hk hcells hpe hrk hr
        by_cases hbig : z ≤ 65535
        · obtain ⟨c1, hc1⟩ : ∃ c1 : UInt8, c1 = (r / 256).toUInt8 := ⟨_, rfl⟩
          obtain ⟨c2, hc2⟩ : ∃ c2 : UInt8, c2 = (r % 256).toUInt8 := ⟨_, rfl⟩
          have HP := Lib.hid (show Mt.pairs1 r = [c1, c2] by unfold Mt.pairs1; rw [if_pos (by omega), hc1, hc2]; rfl)
          have q1 : z / 256 = (c1.toNat : Int) := by rw [hc1, Mt.u8_lit _ (by omega)]; omega
          have q2 : z % 256 = (c2.toNat : Int) := by rw [hc2, Mt.u8_lit _ (by omega)]; omega
          have b1 := c1.toNat_lt
          have b2 := c2.toNat_lt
          have q3 : (c1.toNat : Int) % 256 = (c1.toNat : Int) := by omega
          have q4 : (c2.toNat : Int) % 256 = (c2.toNat : Int) := by omega
          have z0 : 0 ≤ z := by omega
          have z1 : ¬ 65535 < z := by omega
          clear hc1 hc2 hz b1 b2 hbig hr1
          go_wp2_with (at_builtin; refine wpList_app_bv rfl _ _ rfl (.inl HB.out) rfl [c1, c2] _ rfl 2 rfl (by decide) rfl hsz htl ?_; intro v' w3 hb3)
          have B3 := Lib.hid hb3
          clear hb3
          go_roundg (n - (j + 1) + 1)
          case measure => omega
          case rel =>
            refine ⟨j + 1, v', rfl, rfl, by go_num, by omega, ?_, HO.out.oth B3.out.2.2, Below.trans HK.out B3.out.2.1⟩
            rw [HT.out, HP.out]; exact B3.out.1
        · obtain ⟨a, ha⟩ : ∃ a : Nat, a = 55296 + (r - 65536) / 1024 := ⟨_, rfl⟩
          obtain ⟨b, hb⟩ : ∃ b : Nat, b = 56320 + (r - 65536) % 1024 := ⟨_, rfl⟩
          obtain ⟨c1, hc1⟩ : ∃ c1 : UInt8, c1 = (a / 256).toUInt8 := ⟨_, rfl⟩
          obtain ⟨c2, hc2⟩ : ∃ c2 : UInt8, c2 = (a % 256).toUInt8 := ⟨_, rfl⟩
          obtain ⟨d1, hd1⟩ : ∃ d1 : UInt8, d1 = (b / 256).toUInt8 := ⟨_, rfl⟩
          obtain ⟨d2, hd2⟩ : ∃ d2 : UInt8, d2 = (b % 256).toUInt8 := ⟨_, rfl⟩
          have HP := Lib.hid (show Mt.pairs1 r = [c1, c2] ++ [d1, d2] by unfold Mt.pairs1; rw [if_neg (by omega), ← ha, ← hb, hc1, hc2, hd1, hd2]; rfl)
          obtain ⟨y, hy⟩ : ∃ y : Int, y = z - 65536 := ⟨_, rfl⟩
          obtain ⟨za, hza⟩ : ∃ za : Int, za = (a : Int) := ⟨_, rfl⟩
          obtain ⟨zb, hzb⟩ : ∃ zb : Int, zb = (b : Int) := ⟨_, rfl⟩
          have e1 : z - 65536 = y := hy.symm
          have e2 : 55296 + y / 1024 = za := by omega
          have e3 : 56320 + y % 1024 = zb := by omega
          have q1 : za / 256 = (c1.toNat : Int) := by rw [hc1, Mt.u8_lit _ (by omega)]; omega
          have q2 : za % 256 = (c2.toNat : Int) := by rw [hc2, Mt.u8_lit _ (by omega)]; omega
          have r1 : zb / 256 = (d1.toNat : Int) := by rw [hd1, Mt.u8_lit _ (by omega)]; omega
          have r2 : zb % 256 = (d2.toNat : Int) := by rw [hd2, Mt.u8_lit _ (by omega)]; omega
          have b1 := c1.toNat_lt
          have b2 := c2.toNat_lt
          have b3 := d1.toNat_lt
          have b4 := d2.toNat_lt
          have q3 : (c1.toNat : Int) % 256 = (c1.toNat : Int) := by omega
          have q4 : (c2.toNat : Int) % 256 = (c2.toNat : Int) := by omega
          have r3 : (d1.toNat : Int) % 256 = (d1.toNat : Int) := by omega
          have r4 : (d2.toNat : Int) % 256 = (d2.toNat : Int) := by omega
          have z0 : 65535 < z := by omega
          have z1 : z ≤ 1114111 := by omega
          have y0 : 0 ≤ y := by omega
          have y1 : y ≤ 1048575 := by omega
          have a0 : 0 ≤ za := by omega
          have a1 : za ≤ 65535 := by omega
          have c0 : 0 ≤ zb := by omega
          have c9 : zb ≤ 65535 := by omega
          have htl2 : (254 :: 255 :: Mt.pairs (R.take j) ++ [c1, c2]).length + 2 ≤ 1099511627776 := by
            have := Mt.pairs_len (R.take j)
            rw [List.length_take] at this
            have := Nat.min_le_left j R.length
            simp only [List.length_append, List.length_cons, List.length_nil]; omega
          clear hc1 hc2 hd1 hd2 ha hb hz b1 b2 b3 b4 hbig hr1 hy hza hzb
          go_wp2_with (first | (at_builtin; refine wpList_app_bv rfl _ _ rfl (.inl HB.out) rfl [c1, c2] _ rfl 2 rfl (by decide) rfl hsz htl ?_; intro v' w3 hb3; have B3 := Lib.hid hb3; have hc3 := (HO.out.oth hb3.2.2).cellAt' j hlt2; clear hb3) | (at_builtin; refine wpList_app_bv rfl _ _ rfl (.inl B3.out.1) rfl [d1, d2] _ rfl 2 rfl (by decide) rfl (Nat.le_trans hsz (Below.size (Below.mono B3.out.2.1 (Nat.le_refl _)))) htl2 ?_; intro v' w4 hb4))
          have B4 := Lib.hid hb4
          clear hb4
          go_roundg (n - (j + 1) + 1)
          case measure => omega
          case rel =>
            refine ⟨j + 1, v', rfl, rfl, by go_num, by omega, ?_, (HO.out.oth B3.out.2.2).oth B4.out.2.2, Below.trans HK.out (Below.trans B3.out.2.1 B4.out.2.1)⟩
            rw [HT.out, HP.out]
            have := B4.out.1
            rw [List.append_assoc] at this
            exact this
      · obtain rfl : j = n := by omega
        have hT : R.take j = R := by rw [HN.out, List.take_length]
        rw [hT] at hb
        have hst := hb.string
        clear hT hb ho hk
        go_wp2_with fail
        go_ret
        exact ⟨by rw [← HR.out]; rfl, HK.out⟩

set_option maxRecDepth 100000 in
set_option maxHeartbeats 4000000 in
theorem REncode_bytes (u : ByteArray) (w : World) (hu : u.size ≤ 268435000) (h1 : Mt.bytesB u.data.toList = true) (h2 : Mt.marked (Mt.bytesV u.data.toList) = false) :
    Calls Try.prog 20 #[.string u] w fun e w' => e = .returned (.string ⟨(Mt.bytesV u.data.toList).toArray⟩) ∧ Kept w w' := by
  have HBY := Lib.hid (RBytes_any u w (by omega))
  obtain ⟨S, hS⟩ : ∃ S : ByteArray, S = ⟨(Mt.bytesV u.data.toList).toArray⟩ := ⟨_, rfl⟩
  have HW := Mt.marked_ways S
  rw [show S.data.toList = Mt.bytesV u.data.toList by rw [hS]] at HW
  rw [← hS, h1] at HBY
  rw [← hS]
  clear hS h1
  rcases HW with ⟨hmk, -⟩ | ⟨hmk, hsz | ⟨hsz, h0⟩ | ⟨hsz, h0, h1⟩⟩
  · rw [hmk] at h2; cases h2
  · have y0 : ¬ (1 : Int) < (S.size : Int) := by omega
    clear hmk h2
    go_enter Try.func20, Try.ntmps20
    go_wp2_with fail
    (with_reducible refine HBY.out.mono ?_)
    rintro e w1 ⟨rfl, hk1⟩
    have K1 := Lib.hid hk1
    clear hk1
    go_wp2_with fail
    go_ret
    exact ⟨rfl, K1.out⟩
  · have y0 : (1 : Int) < (S.size : Int) := by omega
    have y1 : (0 : Int) < (S.size : Int) := by omega
    have b0 := Mt.byte_not h0 254 rfl
    clear hmk h2 h0
    go_enter Try.func20, Try.ntmps20
    go_wp2_with fail
    (with_reducible refine HBY.out.mono ?_)
    rintro e w1 ⟨rfl, hk1⟩
    have K1 := Lib.hid hk1
    clear hk1
    go_wp2_with fail
    go_ret
    exact ⟨rfl, K1.out⟩
  · have y0 : (1 : Int) < (S.size : Int) := by omega
    have y1 : (0 : Int) < (S.size : Int) := by omega
    have b0 := Mt.byte_is h0 254 rfl
    have b1 := Mt.byte_not h1 255 rfl
    clear hmk h2 h0 h1
    go_enter Try.func20, Try.ntmps20
    go_wp2_with fail
    (with_reducible refine HBY.out.mono ?_)
    rintro e w1 ⟨rfl, hk1⟩
    have K1 := Lib.hid hk1
    clear hk1
    go_wp2_with fail
    go_ret
    exact ⟨rfl, K1.out⟩
theorem REncode_any (u : ByteArray) (w : World) (hu : u.size ≤ 268435000) :
    Calls Try.prog 20 #[.string u] w fun e w' => e = .returned (.string ⟨(Mt.encodeV u.data.toList).toArray⟩) ∧ Kept w w' := by
  cases hn : (Mt.bytesB u.data.toList && !Mt.marked (Mt.bytesV u.data.toList))
  · unfold Mt.encodeV
    rw [hn]
    exact REncode_pairs u w hu hn
  · have h1 : Mt.bytesB u.data.toList = true := by
      cases h : Mt.bytesB u.data.toList
      · rw [h] at hn; exact absurd hn (by simp)
      · rfl
    have h2 : Mt.marked (Mt.bytesV u.data.toList) = false := by
      cases h : Mt.marked (Mt.bytesV u.data.toList)
      · rfl
      · rw [h1, h] at hn; exact absurd hn (by decide)
    unfold Mt.encodeV
    rw [hn]
    exact REncode_bytes u w hu h1 h2

end Go.Proofs.Ytkgaddlclfjkmaa
