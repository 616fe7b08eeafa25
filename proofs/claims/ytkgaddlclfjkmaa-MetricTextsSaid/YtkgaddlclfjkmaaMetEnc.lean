/-
  Characters laid behind bytes: a pair, two pairs; a text's characters as bytes; Encode.
-/
import Derived.Test.YtkgaddlclfjkmaaMetRow
import Derived.Deep.LoopGhost
import Derived.Lib.SlBytesConst
namespace Go.Proofs.Ytkgaddlclfjkmaa
open Go.RowKit
set_option linter.unusedSimpArgs false
set_option linter.unusedVariables false

theorem Mt.byte_int (n : Nat) (z : Int) (h : z = (n : Int)) : ((n % 256).toUInt8.toNat : Int) = z % 256 := by
  subst h
  rw [Mt.u8_lit _ (by omega)]; omega

set_option maxRecDepth 100000 in
theorem appendPair_any (r : Nat) (B : Nat) (v : Value) (l : List UInt8) (w : World) (hv : BV w B v l) (hB : B ≤ w.heap.size) (hr : r ≤ 65535) (hl : l.length ≤ 1073741824) :
    Calls Try.prog 47 #[v, .int .i32 r] w fun e w' => ∃ v', e = .returned v' ∧ Behind B w (l ++ Mt.pair r) v' w' := by
  obtain ⟨z, hz⟩ : ∃ z : Int, z = (r : Int) := ⟨_, rfl⟩
  rw [← hz]
  have i0 : 0 ≤ z := by omega
  have i1 : z ≤ 65535 := by omega
  obtain ⟨x, hx⟩ : ∃ x : UInt8, x = (r / 256).toUInt8 := ⟨_, rfl⟩
  obtain ⟨y, hy⟩ : ∃ y : UInt8, y = (r % 256).toUInt8 := ⟨_, rfl⟩
  have HX := Lib.hid (show (x.toNat : Int) = z / 256 by rw [hx, Mt.u8_lit _ (by omega)]; omega)
  have HY := Lib.hid (show (y.toNat : Int) = z % 256 by rw [hy, Mt.u8_lit _ (by omega)]; omega)
  have HP := Lib.hid (show Mt.pair r = [x, y] by rw [hx, hy]; rfl)
  have HV := Lib.hid hv
  clear hx hy hz hv hr
  go_enter Try.func47, Try.ntmps47
  go_wp2_with (at_builtin; refine wpList_app_bv rfl _ _ rfl HV.out rfl [x, y] _ (by simp only [Lib.byteCells, List.map_cons, List.map_nil, HX.out, HY.out]) 2 rfl (by decide) rfl hB (by omega) ?_; intro v' w1 hb1)
  go_ret
  exact ⟨v', rfl, by rw [HP.out]; exact hb1⟩

theorem Behind.trans {B : Nat} {w w1 w2 : World} {l m : List UInt8} {v1 v2 : Value} (h : Behind B w l v1 w1) (k : Behind B w1 m v2 w2) : Behind B w m v2 w2 := ⟨k.1, h.2.1.trans k.2.1, h.2.2.trans k.2.2⟩

theorem and_i32 {n : Int} (h0 : 0 ≤ n) (h1 : n ≤ 2147483647) : bits .and .i32 n 1023 = n % 1024 := by
  have hc : (BitVec.ofInt 32 1023).toNat = 2 ^ 10 - 1 := by decide
  have hk : (BitVec.ofInt 32 n &&& BitVec.ofInt 32 1023).toNat = (n % ((2 ^ 32 : Nat) : Int)).toNat % 2 ^ 10 := by
    rw [BitVec.toNat_and, BitVec.toNat_ofInt, hc, Nat.and_two_pow_sub_one_eq_mod]
  show IntKind.i32.wrap ((BitVec.ofInt 32 n &&& BitVec.ofInt 32 1023).toNat : Nat) = n % 1024
  rw [hk]
  unfold IntKind.wrap
  simp [IntKind.bits, IntKind.signed]
  omega

set_option maxRecDepth 100000 in
theorem appendChar_any (r : Nat) (B : Nat) (v : Value) (l : List UInt8) (w : World) (hv : BV w B v l) (hB : B ≤ w.heap.size) (hr : Mt.okR r) (hl : l.length ≤ 1073741000) :
    Calls Try.prog 33 #[v, .int .i32 r] w fun e w' => ∃ v', e = .returned v' ∧ Behind B w (l ++ Mt.pairs1 r) v' w' := by
  unfold Mt.okR at hr
  by_cases h : r ≤ 65535
  · have C := Lib.hid (appendPair_any r B v l w hv hB h (by omega))
    have HP := Lib.hid (show Mt.pairs1 r = Mt.pair r by unfold Mt.pairs1; rw [if_pos h])
    obtain ⟨z, hz⟩ : ∃ z : Int, z = (r : Int) := ⟨_, rfl⟩
    rw [← hz] at C ⊢
    have i1 : z ≤ 65535 := by omega
    clear hv hr hz h
    go_enter Try.func33, Try.ntmps33
    go_wp2_with fail
    (with_reducible refine C.out.mono ?_)
    rintro e w1 ⟨v1, rfl, h1⟩
    have H1 := Lib.hid h1
    clear h1
    go_wp2_with fail
    go_ret
    exact ⟨v1, rfl, by rw [HP.out]; exact H1.out⟩
  · obtain ⟨a, ha⟩ : ∃ a, a = 55296 + (r - 65536) / 1024 := ⟨_, rfl⟩
    obtain ⟨b, hb⟩ : ∃ b, b = 56320 + (r - 65536) % 1024 := ⟨_, rfl⟩
    have HP := Lib.hid (show l ++ Mt.pairs1 r = l ++ Mt.pair a ++ Mt.pair b by unfold Mt.pairs1; rw [if_neg h, ← ha, ← hb, List.append_assoc])
    have C := Lib.hid (appendPair_any a B v l w hv hB (by omega) (by omega))
    have D := Lib.hid (fun v1 w1 (h1 : Behind B w (l ++ Mt.pair a) v1 w1) => appendPair_any b B v1 (l ++ Mt.pair a) w1 (.inl h1.1) (Nat.le_trans hB h1.2.1.size) (by omega) (by simp [Mt.pair]; omega))
    obtain ⟨z, hz⟩ : ∃ z : Int, z = (r : Int) := ⟨_, rfl⟩
    rw [← hz]
    have i0 : 65536 ≤ z := by omega
    have i1 : z ≤ 1114111 := by omega
    have i2 : ¬ z ≤ 65535 := by omega
    obtain ⟨y, hy⟩ : ∃ y : Int, y = z - 65536 := ⟨_, rfl⟩
    have j0 : 0 ≤ y := by omega
    have j1 : y ≤ 1048575 := by omega
    have e1 : z - 65536 = y := hy.symm
    have e2 := and_i32 j0 (by omega)
    have HA := Lib.hid (show ((a : Nat) : Int) = 55296 + y / 1024 by omega)
    have HB := Lib.hid (show ((b : Nat) : Int) = 56320 + y % 1024 by omega)
    rw [HA.out] at C
    rw [HB.out] at D
    clear hv hr hz h ha hb hy
    go_enter Try.func33, Try.ntmps33
    go_wp2_with fail
    (with_reducible refine C.out.mono ?_)
    rintro e w1 ⟨v1, rfl, h1⟩
    have H1 := Lib.hid h1
    clear h1
    go_wp2_with fail
    (with_reducible refine (D.out _ _ H1.out).mono ?_)
    rintro e w2 ⟨v2, rfl, h2⟩
    have H2 := Lib.hid (H1.out.trans h2)
    clear h2
    go_wp2_with fail
    go_ret
    exact ⟨v2, rfl, by rw [HP.out]; exact H2.out⟩

theorem OwB.iterAt {w : World} {B : Nat} {v : Value} {l : List UInt8} (h : OwB w B v l) {k : Nat} {s : ByteArray} {pos : Nat} (hk : w.heap[k]? = some (.stringIter s pos)) (pos' : Nat) : OwB (w.iterAt k s pos') B v l := by
  refine World.ownsRow.kept h (w' := w.iterAt k s pos') (row := some k) ⟨rfl, rfl, rfl, by rw [Lib.iterAt_size]; exact Nat.le_refl _, fun j _ hj => Lib.iterAt_other w k j s pos' (fun e => hj (by rw [e]))⟩ ?_
  cases hv : v.ownBlock with
  | none => exact .inl rfl
  | some g =>
    refine .inr fun e => ?_
    obtain ⟨c, fz, hh⟩ := h.kind g hv
    rw [Option.some.inj e, hk] at hh
    cases hh

set_option maxRecDepth 100000 in
theorem Bytes_any (u : ByteArray) (w : World) (hu : u.size ≤ 1073741000) :
    Calls Try.prog 15 #[.string u] w fun e w' => e = .returned (.tuple #[.string ⟨(Mt.bytesV u.data.toList).toArray⟩, .bool (Mt.bytesB u.data.toList)]) ∧ Kept w w' := by
  obtain ⟨L, hL⟩ : ∃ L, L = u.data.toList := ⟨_, rfl⟩
  have hlen : L.length = u.size := by rw [hL]; simp
  rw [← hL]
  have DR := Lib.hid (fun pos => (show Go.Lib.decodeL (L.drop pos) = Utf8.decode u pos by rw [hL]; exact Lib.decodeL_drop u pos))
  have HL := Lib.hid hlen
  clear hL hlen
  go_enter Try.func15, Try.ntmps15
  go_wp2_with fail
  go_loopg [4] (u.size + 1) (fun m x wr => ∃ (pos : Nat) (l : List Nat) (vv : Value), m = u.size + 1 - pos ∧ vv = x ∧ pos ≤ u.size ∧ OwB wr w.heap.size vv (Mt.asBytes l) ∧ Hid (Mt.runes L = l ++ Mt.runes (L.drop pos) ∧ ∀ r ∈ l, Mt.alone r = true) ∧ wr.heap[w.heap.size]? = some (.stringIter u pos) ∧ Kept w wr ∧ l.length ≤ pos)
  case atStart => exact ⟨0, [], _, by simp, rfl, Nat.zero_le _, (OwB.nil _ _), Lib.hid ⟨by simp, fun _ h => absurd h List.not_mem_nil⟩, World.iter_heap w u 0, (Kept.refl w).allocO _, Nat.le_refl _⟩
  case round =>
    obtain ⟨pos, l, vv, hm, rfl, hp, ho, HR, hit, hk, hlp⟩ := hrel
    have HO := Lib.hid ho
    have HI := Lib.hid hit
    have HK := Lib.hid hk
    have hsz : w.heap.size < wr.heap.size := (Array.getElem?_eq_some_iff.1 hit).1
    by_cases hlt : pos < u.size
    · have hne : L.drop pos ≠ [] := by
        intro e
        have := congrArg List.length e
        rw [List.length_drop, HL.out, List.length_nil] at this; omega
      have HC := Lib.hid (Mt.runes_cons _ hne)
      have hd1 := Mt.decodeL_pos _ hne
      have hd2 := Mt.decodeL_le _ hne
      have hd3 := Mt.decodeL_ok (L.drop pos)
      rw [List.length_drop, HL.out] at hd2
      have hnx : ∀ ty, (Instr.next (.pointer (some ⟨w.heap.size, 0, none⟩)) true ty).run Try.prog wr = _ := fun ty => Lib.run_next_any_at wr w.heap.size u pos ty hit hlt
      rw [List.drop_drop] at HC
      rw [DR.out] at HC hd1 hd2 hd3
      obtain ⟨r, hr⟩ : ∃ r, r = (Utf8.decode u pos).1 := ⟨_, rfl⟩
      obtain ⟨d, hd⟩ : ∃ d, d = (Utf8.decode u pos).2 := ⟨_, rfl⟩
      rw [← hr] at hnx hd3 HC
      rw [← hd] at hnx hd1 hd2 HC
      clear hr hd
      have hr1 : r ≤ 1114111 := by unfold Mt.okR at hd3; omega
      obtain ⟨w1, hw1⟩ : ∃ w1, w1 = wr.iterAt w.heap.size u (pos + d) := ⟨_, rfl⟩
      have K1 := Lib.hid (show Kept w w1 by rw [hw1]; exact Lib.below_iterAt hk (Nat.le_refl _) u (pos + d))
      have I1 := Lib.hid (show w1.heap[w.heap.size]? = some (.stringIter u (pos + d)) by rw [hw1]; exact Lib.iterAt_heap wr w.heap.size u pos (pos + d) hit)
      have O1 := Lib.hid (show OwB w1 w.heap.size vv (Mt.asBytes l) by rw [hw1]; exact ho.iterAt hit _)
      have S1 := Lib.hid (show w.heap.size < w1.heap.size by rw [hw1, Lib.iterAt_size]; exact hsz)
      rw [← hw1] at hnx
      clear hw1 hit hk ho
      have AL := Lib.hid (fun wx => isAlone_any r wx hr1)
      cases ha : Mt.alone r
      · rw [ha] at AL
        have HB := Lib.hid (show Mt.bytesB L = false by
          unfold Mt.bytesB
          rw [HR.out.1, HC.out, List.all_append, List.all_cons, ha]; simp)
        have HV := Lib.hid (show Mt.bytesV L = [] by unfold Mt.bytesV; rw [HB.out]; rfl)
        clear ha
        go_wp2_with fail
        (with_reducible refine (AL.out _).mono ?_)
        rintro e w2 ⟨rfl, rfl⟩
        go_wp2_with fail
        go_ret2
        exact ⟨by rw [HB.out, HV.out]; rfl, K1.out⟩
      · rw [ha] at AL
        have h8 := Mt.alone_lt ha
        have HA := Lib.hid ha
        clear ha
        have hw8 : ((r : Int) % 256) = (r : Int) := by omega
        go_wp2_with fail
        (with_reducible refine (AL.out _).mono ?_)
        rintro e w2 ⟨rfl, rfl⟩
        go_wp2_with (at_builtin; refine wpList_app_bv rfl _ _ rfl (.inl O1.out) rfl [r.toUInt8] _ (by simp only [Lib.byteCells, List.map_cons, List.map_nil]; rw [Mt.u8_lit r h8]) 1 rfl (by decide) rfl (Nat.le_of_lt S1.out) (by rw [Mt.asBytes, List.length_map]; omega) ?_; intro v' w3 hb3)
        have B3 := Lib.hid hb3
        clear hb3
        go_roundg (u.size + 1 - (pos + d))
        case measure => omega
        case rel =>
          refine ⟨pos + d, l ++ [r], v', rfl, rfl, by omega, ?_, Lib.hid ⟨?_, ?_⟩, B3.out.2.2 _ _ I1.out (by simp) (fun _ _ e => by cases e), Below.trans K1.out B3.out.2.1, ?_⟩
          · rw [show Mt.asBytes (l ++ [r]) = Mt.asBytes l ++ [r.toUInt8] by simp [Mt.asBytes]]; exact B3.out.1
          · rw [List.append_assoc]; exact HR.out.1.trans (by rw [HC.out]; rfl)
          · intro q hq
            rcases List.mem_append.1 hq with hq | hq
            · exact HR.out.2 q hq
            · rw [List.mem_singleton.1 hq]; exact HA.out
          · simp; omega
    · obtain rfl : pos = u.size := by omega
      have hnx : ∀ ty, (Instr.next (.pointer (some ⟨w.heap.size, 0, none⟩)) true ty).run Try.prog wr = _ := fun ty => Lib.run_next_end_at wr w.heap.size u u.size ty hit hlt
      have hR := HR.out.1
      rw [List.drop_eq_nil_of_le (by rw [HL.out]; exact Nat.le_refl _), Mt.runes_nil, List.append_nil] at hR
      have HB := Lib.hid (show Mt.bytesB L = true by unfold Mt.bytesB; rw [hR]; exact List.all_eq_true.2 HR.out.2)
      have HV := Lib.hid (show Mt.bytesV L = Mt.asBytes l by unfold Mt.bytesV; rw [HB.out, if_pos rfl, hR])
      have hst := ho.string
      clear hR ho hit
      go_wp2_with fail
      go_ret2
      exact ⟨by rw [HB.out, HV.out]; rfl, HK.out⟩

end Go.Proofs.Ytkgaddlclfjkmaa
