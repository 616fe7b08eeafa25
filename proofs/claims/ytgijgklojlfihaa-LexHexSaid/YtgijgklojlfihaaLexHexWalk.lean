/-
  LexHex: bytes in digits of sixteen, small or great, are a Text of these.
-/
import Derived.Test.YtgijgklojlfihaaLexAwake
import Derived.Test.YtgijgklojlfihaaLexHexMath
import Derived.Deep.RegionHeld3
import Derived.Test.YtgijgklojlfihaaBytesArg
namespace Go.Proofs.Ytgijgklojlfihaa
open Go.RowKit

theorem dg_extract (g : Bool) {j : Nat} (h : j < 16) :
    (if g then (⟨#[48, 49, 50, 51, 52, 53, 54, 55, 56, 57, 65, 66, 67, 68, 69, 70]⟩ : ByteArray) else ⟨#[48, 49, 50, 51, 52, 53, 54, 55, 56, 57, 97, 98, 99, 100, 101, 102]⟩).extract j (j + 1) = ⟨#[Lx.dg g j]⟩ := by
  have : ∀ (g : Bool) (m : Fin 16), (if g then (⟨#[48, 49, 50, 51, 52, 53, 54, 55, 56, 57, 65, 66, 67, 68, 69, 70]⟩ : ByteArray) else ⟨#[48, 49, 50, 51, 52, 53, 54, 55, 56, 57, 97, 98, 99, 100, 101, 102]⟩).extract m.val (m.val + 1) = ⟨#[Lx.dg g m.val]⟩ := by decide
  exact this g ⟨j, h⟩

theorem hcat {O : ByteArray} {m : List UInt8} (h : O = ⟨m.toArray⟩) (a b : UInt8) : O ++ ⟨#[a]⟩ ++ ⟨#[b]⟩ = ⟨(m ++ [a, b]).toArray⟩ := by
  subst h; apply ByteArray.ext; simp
theorem pairs_take (g : Bool) (l : List UInt8) (k : Nat) (h : k < l.length) : 60 :: (l.take (k + 1)).flatMap (Lx.pairB g) = (60 :: (l.take k).flatMap (Lx.pairB g)) ++ Lx.pairB g l[k] := by
  rw [List.take_succ_eq_append_getElem h, List.flatMap_append]
  simp

theorem extract_init (q : List UInt8) (d : UInt8) : (⟨(q ++ [d]).toArray⟩ : ByteArray).extract 0 q.length = ⟨q.toArray⟩ := by
  apply ByteArray.ext
  rw [ByteArray.data_extract]
  apply Array.ext'
  simp
theorem half_text (g : Bool) (l0 : List UInt8) (x : UInt8) {O : ByteArray} (h : O = ⟨(60 :: (l0 ++ [x]).flatMap (Lx.pairB g)).toArray⟩) :
    (O.extract 0 (2 * (l0.length + 1)) ++ ⟨#[62]⟩ : ByteArray).data.toList = 60 :: (l0.flatMap (Lx.pairB g) ++ (Lx.dg g (x.toNat / 16) :: 62 :: [])) := by
  subst h
  have e : (60 :: (l0 ++ [x]).flatMap (Lx.pairB g)) = (60 :: (l0.flatMap (Lx.pairB g) ++ [Lx.dg g (x.toNat / 16)])) ++ [Lx.dg g (x.toNat % 16)] := by
    simp [Lx.pairB]
  have el : (60 :: (l0.flatMap (Lx.pairB g) ++ [Lx.dg g (x.toNat / 16)])).length = 2 * (l0.length + 1) := by
    rw [List.length_cons, List.length_append, Lx.pairs_len]; simp; omega
  rw [e, ← el, extract_init]
  simp

theorem and_240 (x : UInt8) : bits BinOp.and IntKind.u8 (x.toNat : Int) 240 = ((x &&& 240).toNat : Int) := by
  have := Lx.byte_all (fun x => bits BinOp.and IntKind.u8 (x.toNat : Int) 240 == ((x &&& 240).toNat : Int)) (by kernel_rfl) x
  simpa using this
theorem string_of {w : World} {b o cap : Nat} {l : List UInt8} (n : Nat) (hn : n = l.length) (h : ∀ (j : Nat) (hj : j < l.length), w.cell? ⟨b, o + j, none⟩ = some (.int .u8 (l[j].toNat : Int))) :
    (convert 41 9 (.slice (some ⟨b, o, none⟩) n cap)).run Try.prog w = .ok (.string ⟨l.toArray⟩) w := by
  subst hn
  refine run_convert_bytes_back (P := Try.prog) w 41 9 5 ⟨b, o, none⟩ cap l Try.underlying41 Try.underlying5 Try.underlying9 fun j hj => ?_
  rw [Addr.add_lit]; exact h j hj

set_option maxRecDepth 100000 in
set_option maxHeartbeats 8000000 in
theorem lexHex_main (b o cap m : Nat) (l l0 : List UInt8) (x : UInt8) (g : Bool) (w : World) (hm : HasMax w) (hlx : l = l0 ++ [x]) (hm0 : l0.length = m) (hl : m + 1 ≤ 300) (hcap : m + 1 ≤ cap) (hcm : cap ≤ maxLen) (hc : ∀ (j : Nat) (h : j < l.length), w.cell? ⟨b, o + j, none⟩ = some (.int .u8 (l[j].toNat : Int))) :
    Calls Try.prog 8 #[.slice (some ⟨b, o, none⟩) (m + 1) cap, .bool g] w fun e w' => e = .returned (.bool true) ∧ Kept w w' := by
  have HM := Lib.hid hm
  have HC := Lib.hid hc
  have hlen : l.length = m + 1 := by rw [hlx, List.length_append, hm0]; rfl
  have HLX := Lib.hid hlx
  have HM0 := Lib.hid hm0
  have HLEN := Lib.hid hlen
  unfold maxLen at hcm
  clear hm hc hlx hm0
  have hbl : b < w.heap.size := by
    have h0 := HC.out 0 (by omega)
    by_cases hb : b < w.heap.size
    · exact hb
    · exact absurd h0 (by simp [World.cell?, hb])
  clear hlen
  obtain ⟨y, hy⟩ : ∃ y, y = x &&& 240 := ⟨_, rfl⟩
  have hand := and_240 x
  rw [← hy] at hand
  have HY := Lib.hid hy
  clear hy
  have hz0 : ((m : Int) + 1 == 0) = false := by rw [beq_eq_false_iff_ne]; omega
  have hz1 : (m : Int) + 1 ≤ 300 := by omega
  go_enter Try.func8, Try.ntmps8
  go_wp2_with fail
  refine (awake_any _ HM.out).mono ?_
  rintro e w1 ⟨rfl, hk1⟩
  have HK1 := Lib.hid hk1
  clear hk1
  cases hg : g
  all_goals
    go_wp2_with fail
    go_loopg [7, 8] (m + 1) (fun n v i wr => ∃ (k : Nat) (O : ByteArray), n = m + 1 - k ∧ k ≤ m + 1 ∧ i = .int .i64 k ∧ v = .string O ∧ Hid (O = ⟨(60 :: (l.take k).flatMap (Lx.pairB g)).toArray⟩) ∧ Kept w wr)
    case atStart => exact ⟨0, _, rfl, Nat.zero_le _, rfl, rfl, Lib.hid rfl, HK1.out⟩
    case round =>
      obtain ⟨k, O, hn, hkl, rfl, rfl, HO, hk⟩ := hrel
      have HK := Lib.hid hk
      have hOz : O.size = 2 * k + 1 := by
        rw [HO.out]
        show (List.toArray _).size = _
        rw [List.size_toArray, List.length_cons, Lx.pairs_len, List.length_take, HLEN.out, Nat.min_eq_left hkl]
      have HOZ := Lib.hid hOz
      have hO1 : O.size ≤ 601 := by omega
      have hO2 : 1 ≤ O.size := by omega
      clear hk hOz
      by_cases hlt : k < m + 1
      · have hkl2 : k < l.length := by rw [HLEN.out]; exact hlt
        have hcell : wr.cell? ⟨b, o + k, none⟩ = some (.int .u8 (l[k].toNat : Int)) := (Below.cell HK.out (p := ⟨b, o + k, none⟩) hbl).trans (HC.out k hkl2)
        have HT := Lib.hid (pairs_take g l k hkl2)
        have g1 := l[k].toNat_lt
        obtain ⟨n1, hn1⟩ : ∃ n, n = l[k].toNat / 16 := ⟨_, rfl⟩
        obtain ⟨n2, hn2⟩ : ∃ n, n = l[k].toNat % 16 := ⟨_, rfl⟩
        have HP := Lib.hid (show Lx.pairB g l[k] = [Lx.dg g n1, Lx.dg g n2] by rw [hn1, hn2]; rfl)
        have k1 : (l[k].toNat : Int) / 16 = (n1 : Int) := by omega
        have k2 : (l[k].toNat : Int) % 16 = (n2 : Int) := by omega
        have l1 : n1 < 16 := by omega
        have l2 : n2 < 16 := by omega
        have x1 := dg_extract g l1
        have x2 := dg_extract g l2
        first
          | rw [if_pos hg] at x1 x2
          | rw [if_neg (by rw [hg]; simp)] at x1 x2
        have o1 : (0 : Int) ≤ (n1 : Int) := by omega
        have o2 : (0 : Int) ≤ (n2 : Int) := by omega
        have q1 : (n1 : Int) + 1 ≤ 16 := by omega
        have q2 : (n2 : Int) + 1 ≤ 16 := by omega
        have u1 : (n1 : Int) ≤ (n1 : Int) + 1 := by omega
        have u2 : (n2 : Int) ≤ (n2 : Int) + 1 := by omega
        have w1' : IntKind.u8.wrap ((n1 : Int) + 1) = (n1 : Int) + 1 := by unfold IntKind.wrap; simp [IntKind.signed, IntKind.bits]; omega
        have w2' : IntKind.u8.wrap ((n2 : Int) + 1) = (n2 : Int) + 1 := by unfold IntKind.wrap; simp [IntKind.signed, IntKind.bits]; omega
        have i0 : (0 : Int) ≤ (k : Int) := by omega
        have i1 : (k : Int) < (m : Int) + 1 := by omega
        have HGG := Lib.hid hg
        clear hn1 hn2 g1 hg
        go_wp2_with fail
        go_quiet (fail)
        go_wp2_with fail
        go_roundg (m + 1 - (k + 1))
        case measure => omega
        case rel => exact ⟨k + 1, _, rfl, by omega, by go_num, rfl, Lib.hid (by rw [hcat HO.out, HT.out, HP.out]), HK.out.drewN _⟩
      · obtain rfl : k = m + 1 := by omega
        have hO : O = ⟨(60 :: (l0 ++ [x]).flatMap (Lx.pairB g)).toArray⟩ := by
          rw [HO.out, List.take_of_length_le (by rw [HLEN.out]; exact Nat.le_refl _), HLX.out]
        have HN1 := Lib.hid (show ((0 : Int), (⟨3, 0, l, false, 0, 2 * (m + 1) + 2⟩ : Lx.Tok)) = Lx.nextV (O ++ ⟨#[62]⟩ : ByteArray).data.toList 0 by
          rw [hO, show ((⟨(60 :: (l0 ++ [x]).flatMap (Lx.pairB g)).toArray⟩ : ByteArray) ++ ⟨#[62]⟩ : ByteArray).data.toList = 60 :: ((l0 ++ [x]).flatMap (Lx.pairB g) ++ (62 :: [])) by simp, Lx.next_hex g (l0 ++ [x]) [] (by simp), ← HLX.out, HLEN.out])
        have HN2 := Lib.hid (show ((0 : Int), (⟨3, 0, l0 ++ [y], false, 0, 2 * m + 3⟩ : Lx.Tok)) = Lx.nextV (O.extract 0 (2 * (m + 1)) ++ ⟨#[62]⟩ : ByteArray).data.toList 0 by
          rw [← HM0.out, half_text g l0 x hO, Lx.next_half, HY.out])
        have Z1 := Lib.hid (show (O ++ ⟨#[62]⟩ : ByteArray).size ≤ 4294967295 by rw [ByteArray.size_append, show (⟨#[62]⟩ : ByteArray).size = 1 from rfl]; omega)
        have Z2 := Lib.hid (show (O.extract 0 (2 * (m + 1)) ++ ⟨#[62]⟩ : ByteArray).size ≤ 4294967295 by rw [ByteArray.size_append, ByteArray.size_extract, show (⟨#[62]⟩ : ByteArray).size = 1 from rfl]; omega)
        have HMr := Lib.hid (HM.out.kept HK.out)
        have hOz := HOZ.out
        clear hO
        go_wp2_with fail
        (with_reducible refine (Next_any _ 0 _ Z1.out HMr.out _ HN1.out).mono ?_)
        rintro e w4 ⟨rfl, hk4⟩
        have H4 := Lib.hid (show In w [] w4 from ⟨HK.out.trans hk4, fun _ h => absurd h List.not_mem_nil⟩)
        clear hk4
        simp only []
        go_wp2_with fail
        have G4 := Lib.hid (In.fresh H4.out #[.int .i64 3, .int .i64 0, .string ⟨l.toArray⟩, .bool false, .int .i64 0, .int .i64 (2 * ((m : Int) + 1) + 2)] 25)
        have HM4 := Lib.hid (HM.out.kept G4.out.1)
        (with_reducible refine (Next_any _ 0 _ Z2.out HM4.out _ HN2.out).mono ?_)
        rintro e w5 ⟨rfl, hk5⟩
        have H5 := Lib.hid (G4.out.kept hk5)
        clear hk5
        simp only []
        go_wp2_with fail
        have G5 := Lib.hid (In.fresh H5.out #[.int .i64 3, .int .i64 0, .string ⟨(l0 ++ [y]).toArray⟩, .bool false, .int .i64 0, .int .i64 (2 * (m : Int) + 3)] 25)
        obtain ⟨W, hW⟩ : ∃ W, W = w5.alloc (.cells #[.int .i64 3, .int .i64 0, .string ⟨(l0 ++ [y]).toArray⟩, .bool false, .int .i64 0, .int .i64 (2 * (m : Int) + 3)] 25) := ⟨_, rfl⟩
        rw [← hW] at G5 ⊢
        have hzW : w5.heap.size < W.heap.size := by rw [hW]; simp
        have hz4 : w4.heap.size < W.heap.size := (In.mem G5.out (List.mem_cons_of_mem _ List.mem_cons_self)).lt
        clear hW
        have HCW := Lib.hid (show ∀ (w' : World), Kept w w' → ∀ (j : Nat) (h : j < l.length), w'.cell? ⟨b, o + j, none⟩ = some (.int .u8 (l[j].toNat : Int)) from fun w' hk j h => (Below.cell hk (p := ⟨b, o + j, none⟩) hbl).trans (HC.out j h))
        have HC0 := Lib.hid (show ∀ (w' : World), Kept w w' → ∀ (j : Nat) (h : j < l0.length), w'.cell? ⟨b, o + j, none⟩ = some (.int .u8 (l0[j].toNat : Int)) from fun w' hk j h => by
          rw [HCW.out w' hk j (by rw [HLEN.out, ← HM0.out]; omega)]
          congr 3
          simp only [HLX.out]
          rw [List.getElem_append_left h])
        have HCX := Lib.hid (show ∀ (w' : World), Kept w w' → w'.cell? ⟨b, o + m, none⟩ = some (.int .u8 (x.toNat : Int)) from fun w' hk => by
          rw [HCW.out w' hk m (by rw [HLEN.out]; omega)]
          congr 3
          simp only [HLX.out]
          rw [List.getElem_append_right (by rw [HM0.out]; exact Nat.le_refl _)]
          simp)
        have GA := Lib.hid ((G5.out.alloc (.cells #[.int .u8 (y.toNat : Int)] 5)).drew)
        have v1 := string_of (cap := cap) m HM0.out.symm (HC0.out _ G5.out.1.drew)
        have v2 := string_of (cap := cap) m HM0.out.symm (HC0.out _ GA.out.1)
        have v3 : (convert 41 9 (.slice (some ⟨W.heap.size, 0, none⟩) 1 1)).run Try.prog (W.alloc (.cells #[.int .u8 (y.toNat : Int)] 5)).drew = .ok (.string ⟨[y].toArray⟩) (W.alloc (.cells #[.int .u8 (y.toNat : Int)] 5)).drew :=
          string_of (b := W.heap.size) (o := 0) (l := [y]) 1 rfl (fun j hj => by
            obtain rfl : j = 0 := by simp at hj; omega
            exact (Blk.fresh W #[.int .u8 (y.toNat : Int)] 5).cell 0)
        have v4 := string_of (cap := cap) (m + 1) HLEN.out.symm (HCW.out _ GA.out.1)
        have c1 := HCX.out _ G5.out.1.drew
        have c2 := HCX.out _ GA.out.1
        have HCAT := Lib.hid (show (⟨l0.toArray⟩ ++ ⟨[y].toArray⟩ : ByteArray) = ⟨(l0 ++ [y]).toArray⟩ by apply ByteArray.ext; simp)
        have j1 : IntKind.i64.wrap ((m : Int) + 1 - 1) = m := by rw [Int.add_sub_cancel]; exact IntWalk.i64_in _ (by omega)
        have j2 : (0 : Int) ≤ (m : Int) := by omega
        have j3 : (m : Int) ≤ (cap : Int) := by omega
        have j4 : (m : Int) < (m : Int) + 1 := by omega
        have j5 : IntKind.i64.wrap (m : Int) = m := IntWalk.i64_in _ (by omega)
        have j6 : ¬ (9223372036854775807 < l0.length + 1) := by rw [HM0.out]; omega
        have j7 : l0.length + 1 ≤ 9223372036854775807 := by rw [HM0.out]; omega
        go_region
        clear j1 j2 j3 j4 j5 j6 j7 c1 c2 v1 v2 v3
        have hcat' := HCAT.out
        obtain ⟨a0, _, a2, _, _, a5⟩ := (In.mem GA.out (List.mem_cons_of_mem _ List.mem_cons_self)).cells6
        obtain ⟨b0, _, b2, _, _, b5⟩ := (In.mem GA.out List.mem_cons_self).cells6
        have e5 : (2 * ((m : Int) + 1) + 2 == 2 * ((m : Int) + 1) + 1 + 1) = true := by rw [beq_iff_eq]; omega
        go_wp2_with fail
        go_ret
        exact ⟨rfl, GA.out.1⟩

set_option maxHeartbeats 1000000 in
theorem lexHex_any (v : Value) (l : List UInt8) (g : Bool) (w : World) (hm : HasMax w) (hb : BytesAt w v l) :
    Calls Try.prog 8 #[v, .bool g] w fun e w' => e = .returned (.bool true) ∧ Kept w w' := by
  rcases hb with ⟨p, cap, rfl, rfl⟩ | ⟨b, o, cap, rfl, hne, hcap, hcm, hc⟩
  · go_enter Try.func8, Try.ntmps8
    go_wp2_with fail
    refine (awake_any _ hm).mono ?_
    rintro e w1 ⟨rfl, hk1⟩
    go_wp2_with fail
    go_ret
    exact ⟨rfl, hk1⟩
  by_cases hl : 300 < l.length
  · have hz0 : ((l.length : Int) == 0) = false := by rw [beq_eq_false_iff_ne]; omega
    have hz1 : (l.length == 0) = false := by rw [beq_eq_false_iff_ne]; omega
    unfold maxLen at hcm
    clear hc hne
    go_enter Try.func8, Try.ntmps8
    go_wp2_with fail
    refine (awake_any _ hm).mono ?_
    rintro e w1 ⟨rfl, hk1⟩
    go_wp2_with fail
    go_ret
    exact ⟨rfl, hk1⟩
  · have hpos : 0 < l.length := List.length_pos_iff.2 hne
    have hx := (List.dropLast_concat_getLast hne).symm
    have hd : l.dropLast.length = l.length - 1 := List.length_dropLast
    have h := lexHex_main b o cap (l.length - 1) l l.dropLast (l.getLast hne) g w hm hx hd (by omega) (by omega) hcm hc
    rw [show l.length - 1 + 1 = l.length by omega] at h
    exact h

end Go.Proofs.Ytgijgklojlfihaa
