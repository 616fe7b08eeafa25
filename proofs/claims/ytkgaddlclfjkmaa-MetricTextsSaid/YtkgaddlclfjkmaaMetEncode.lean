/-
  A text's characters as bytes, or as pairs: Encode.
-/
import Derived.Test.YtkgaddlclfjkmaaMetEnc
import Derived.Test.YtkgaddlclfjkmaaShelf
namespace Go.Proofs.Ytkgaddlclfjkmaa
open Go.RowKit
set_option linter.unusedSimpArgs false
set_option linter.unusedVariables false

theorem Mt.marked_pre (l : List UInt8) : Lib.hasPrefix l [254, 255] = Mt.marked l := by
  match l with
  | [] => rfl
  | [a] => show ((254 == a) && false) = false; simp
  | a :: b :: t =>
    show ((254 == a) && ((255 == b) && true)) = (a == 254 && b == 255)
    have h1 : ((254 : UInt8) == a) = (a == 254) := BEq.comm
    have h2 : ((255 : UInt8) == b) = (b == 255) := BEq.comm
    rw [h1, h2, Bool.and_true]
theorem HasPrefix_at (l : List UInt8) (w : World) :
    Calls Try.prog 32 #[.string ⟨l.toArray⟩, .string ⟨#[254, 255]⟩] w fun e w' => e = .returned (.bool (Mt.marked l)) ∧ w = w' :=
  (Try.strings_HasPrefix ⟨l.toArray⟩ ⟨#[254, 255]⟩ w).mono fun e w' ⟨he, hw⟩ => ⟨by rw [he, ← Mt.marked_pre], hw.symm⟩

theorem MkB.iterAt {w : World} {v : Value} {l : List UInt8} (h : MkB w v l) (hl : l ≠ []) {k : Nat} {s : ByteArray} {pos : Nat} (hk : w.heap[k]? = some (.stringIter s pos)) (pos' : Nat) : MkB (w.iterAt k s pos') v l := by
  obtain ⟨g, h1, h2, h3⟩ := h
  have hne : g ≠ k := by
    intro e
    obtain ⟨b, t, rfl⟩ := List.exists_cons_of_ne_nil hl
    have := h3 0 (.int .u8 (b.toNat : Int)) rfl
    rw [e] at this
    simp [World.cell?, hk] at this
  exact ⟨g, h1, by rw [Lib.iterAt_size]; exact h2, fun j u hj => by rw [← h3 j u hj]; exact World.cell?_of_block (Lib.iterAt_other w k g s pos' hne)⟩
theorem BV.iterAt {w : World} {B : Nat} {v : Value} {l : List UInt8} (h : BV w B v l) (hl : l ≠ []) {k : Nat} {s : ByteArray} {pos : Nat} (hk : w.heap[k]? = some (.stringIter s pos)) (pos' : Nat) : BV (w.iterAt k s pos') B v l :=
  h.elim (fun h => .inl (h.iterAt hk pos')) (fun h => .inr (h.iterAt hl hk pos'))

set_option maxRecDepth 100000 in
/-- The pairs of a text's characters. -/
theorem Encode_pairs (u : ByteArray) (w : World) (hu : u.size ≤ 268435000) (hn : (Mt.bytesB u.data.toList && !Mt.marked (Mt.bytesV u.data.toList)) = false) :
    Calls Try.prog 19 #[.string u] w fun e w' => e = .returned (.string ⟨(254 :: 255 :: Mt.pairs (Mt.runes u.data.toList)).toArray⟩) ∧ Kept w w' := by
  have HBY := Lib.hid (Bytes_any u w (by omega))
  obtain ⟨L, hL⟩ : ∃ L, L = u.data.toList := ⟨_, rfl⟩
  have hlen : L.length = u.size := by rw [hL]; simp
  rw [← hL] at HBY hn ⊢
  have DR := Lib.hid (fun pos => (show Go.Lib.decodeL (L.drop pos) = Utf8.decode u pos by rw [hL]; exact Lib.decodeL_drop u pos))
  have HL := Lib.hid hlen
  have HP := Lib.hid (fun wx => HasPrefix_at (Mt.bytesV L) wx)
  obtain ⟨S, hS⟩ : ∃ S : ByteArray, S = ⟨(Mt.bytesV L).toArray⟩ := ⟨_, rfl⟩
  obtain ⟨ok, hok⟩ : ∃ ok, ok = Mt.bytesB L := ⟨_, rfl⟩
  obtain ⟨mk, hmk⟩ : ∃ mk, mk = Mt.marked (Mt.bytesV L) := ⟨_, rfl⟩
  rw [← hok, ← hmk] at hn
  rw [← hS, ← hok] at HBY
  rw [← hS, ← hmk] at HP
  clear hS hok hmk hL hlen
  have kc := fun (w1 : World) => Lib.run_convert_bytes_const (P := Try.prog) w1 45 5 #[.int .u8 254, .int .u8 255] 2 2 Try.underlying45 Try.underlying5
  cases ok
  · go_enter Try.func19, Try.ntmps19
    go_wp2_with fail
    (with_reducible refine HBY.out.mono ?_)
    rintro e w1 ⟨rfl, hk1⟩
    have K1 := Lib.hid hk1
    clear hk1
    have kc1 := kc w1
    clear kc
    go_wp2_with fail
    have hs1 : w.heap.size ≤ w1.heap.size := Below.size K1.out
    go_loopg [5] (u.size + 1) (fun m x wr => ∃ (pos : Nat) (l : List Nat) (vv : Value), m = u.size + 1 - pos ∧ vv = x ∧ pos ≤ u.size ∧ BV wr w.heap.size vv (254 :: 255 :: Mt.pairs l) ∧ Hid (Mt.runes L = l ++ Mt.runes (L.drop pos)) ∧ wr.heap[w1.heap.size + 1]? = some (.stringIter u pos) ∧ Kept w wr ∧ l.length ≤ pos)
    case atStart =>
      have hit : ((w1.alloc (.cells #[.int .u8 254, .int .u8 255] 5 (2, 3))).iter u 0).heap[w1.heap.size + 1]? = some (.stringIter u 0) := by
        have := World.iter_heap (w1.alloc (.cells #[.int .u8 254, .int .u8 255] 5 (2, 3))) u 0
        simpa using this
      exact ⟨0, [], _, by simp, rfl, Nat.zero_le _, .inr (MkB.below (MkB.new w1 [254, 255] #[.int .u8 254, .int .u8 255] rfl (2, 3)) ((Below.refl _ _).alloc (Nat.le_refl _) _)), Lib.hid (by simp), hit, (K1.out.allocO _).allocO _, Nat.le_refl _⟩
    case round =>
      obtain ⟨pos, l, vv, hm, rfl, hp, ho, HR, hit, hk, hlp⟩ := hrel
      have HO := Lib.hid ho
      have HK := Lib.hid hk
      have hsz : w1.heap.size + 1 < wr.heap.size := (Array.getElem?_eq_some_iff.1 hit).1
      by_cases hlt : pos < u.size
      · have hne : L.drop pos ≠ [] := by
          intro e
          have := congrArg List.length e
          rw [List.length_drop, HL.out, List.length_nil] at this; omega
        have HC := Lib.hid (Mt.runes_cons _ hne)
        have hd1 := Mt.decodeL_pos _ hne
        have hd2 := Mt.decodeL_le _ hne
        have hd3 := Mt.decodeL_ok (L.drop pos)
        rw [List.length_drop, HL.out] at hd2
        have hnx : ∀ ty, (Instr.next (.pointer (some ⟨w1.heap.size + 1, 0, none⟩)) true ty).run Try.prog wr = _ := fun ty => Lib.run_next_any_at wr (w1.heap.size + 1) u pos ty hit hlt
        rw [List.drop_drop] at HC
        rw [DR.out] at HC hd1 hd2 hd3
        obtain ⟨r, hr⟩ : ∃ r, r = (Utf8.decode u pos).1 := ⟨_, rfl⟩
        obtain ⟨d, hd⟩ : ∃ d, d = (Utf8.decode u pos).2 := ⟨_, rfl⟩
        rw [← hr] at hnx hd3 HC
        rw [← hd] at hnx hd1 hd2 HC
        clear hr hd
        obtain ⟨w3, hw3⟩ : ∃ w3, w3 = wr.iterAt (w1.heap.size + 1) u (pos + d) := ⟨_, rfl⟩
        have K3 := Lib.hid (show Kept w w3 by rw [hw3]; exact Lib.below_iterAt hk (by omega) u (pos + d))
        have I3 := Lib.hid (show w3.heap[w1.heap.size + 1]? = some (.stringIter u (pos + d)) by rw [hw3]; exact Lib.iterAt_heap wr (w1.heap.size + 1) u pos (pos + d) hit)
        have O3 := Lib.hid (show BV w3 w.heap.size vv (254 :: 255 :: Mt.pairs l) by rw [hw3]; exact ho.iterAt (by simp) hit _)
        rw [← hw3] at hnx
        have hpl := Mt.pairs_len l
        have C := Lib.hid (appendChar_any r w.heap.size vv (254 :: 255 :: Mt.pairs l) w3 O3.out (Below.size K3.out) hd3 (by simp only [List.length_cons]; omega))
        clear hw3 hit hk ho hpl hd3
        go_wp2_with fail
        (with_reducible refine C.out.mono ?_)
        rintro e w4 ⟨v4, rfl, hb4⟩
        have B4 := Lib.hid hb4
        clear hb4
        go_wp2_with fail
        go_roundg (u.size + 1 - (pos + d))
        case measure => omega
        case rel =>
          refine ⟨pos + d, l ++ [r], v4, rfl, rfl, by omega, ?_, Lib.hid ?_, B4.out.2.2 _ _ I3.out (by simp) (fun _ _ e => by cases e), Below.trans K3.out B4.out.2.1, by simp; omega⟩
          · rw [Mt.pairs_append]
            rw [show Mt.pairs [r] = Mt.pairs1 r from List.append_nil _]
            exact Or.inl B4.out.1
          · rw [List.append_assoc]; exact HR.out.trans (by rw [HC.out]; rfl)
      · obtain rfl : pos = u.size := by omega
        have hnx : ∀ ty, (Instr.next (.pointer (some ⟨w1.heap.size + 1, 0, none⟩)) true ty).run Try.prog wr = _ := fun ty => Lib.run_next_end_at wr (w1.heap.size + 1) u u.size ty hit hlt
        have hR := HR.out
        rw [List.drop_eq_nil_of_le (by rw [HL.out]; exact Nat.le_refl _), Mt.runes_nil, List.append_nil] at hR
        have HT := Lib.hid hR
        have hst := ho.string
        clear hR ho hit
        go_wp2_with fail
        go_ret
        exact ⟨by rw [HT.out]; rfl, HK.out⟩
  · cases mk
    · exact absurd hn (by decide)
    go_enter Try.func19, Try.ntmps19
    go_wp2_with fail
    (with_reducible refine HBY.out.mono ?_)
    rintro e w1 ⟨rfl, hk1⟩
    have K1 := Lib.hid hk1
    clear hk1
    have kc1 := kc w1
    clear kc
    go_wp2_with fail
    (with_reducible refine (HP.out _).mono ?_)
    rintro e w2 ⟨rfl, rfl⟩
    go_wp2_with fail
    have hs1 : w.heap.size ≤ w1.heap.size := Below.size K1.out
    go_loopg [5] (u.size + 1) (fun m x wr => ∃ (pos : Nat) (l : List Nat) (vv : Value), m = u.size + 1 - pos ∧ vv = x ∧ pos ≤ u.size ∧ BV wr w.heap.size vv (254 :: 255 :: Mt.pairs l) ∧ Hid (Mt.runes L = l ++ Mt.runes (L.drop pos)) ∧ wr.heap[w1.heap.size + 1]? = some (.stringIter u pos) ∧ Kept w wr ∧ l.length ≤ pos)
    case atStart =>
      have hit : ((w1.alloc (.cells #[.int .u8 254, .int .u8 255] 5 (2, 3))).iter u 0).heap[w1.heap.size + 1]? = some (.stringIter u 0) := by
        have := World.iter_heap (w1.alloc (.cells #[.int .u8 254, .int .u8 255] 5 (2, 3))) u 0
        simpa using this
      exact ⟨0, [], _, by simp, rfl, Nat.zero_le _, .inr (MkB.below (MkB.new w1 [254, 255] #[.int .u8 254, .int .u8 255] rfl (2, 3)) ((Below.refl _ _).alloc (Nat.le_refl _) _)), Lib.hid (by simp), hit, (K1.out.allocO _).allocO _, Nat.le_refl _⟩
    case round =>
      obtain ⟨pos, l, vv, hm, rfl, hp, ho, HR, hit, hk, hlp⟩ := hrel
      have HO := Lib.hid ho
      have HK := Lib.hid hk
      have hsz : w1.heap.size + 1 < wr.heap.size := (Array.getElem?_eq_some_iff.1 hit).1
      by_cases hlt : pos < u.size
      · have hne : L.drop pos ≠ [] := by
          intro e
          have := congrArg List.length e
          rw [List.length_drop, HL.out, List.length_nil] at this; omega
        have HC := Lib.hid (Mt.runes_cons _ hne)
        have hd1 := Mt.decodeL_pos _ hne
        have hd2 := Mt.decodeL_le _ hne
        have hd3 := Mt.decodeL_ok (L.drop pos)
        rw [List.length_drop, HL.out] at hd2
        have hnx : ∀ ty, (Instr.next (.pointer (some ⟨w1.heap.size + 1, 0, none⟩)) true ty).run Try.prog wr = _ := fun ty => Lib.run_next_any_at wr (w1.heap.size + 1) u pos ty hit hlt
        rw [List.drop_drop] at HC
        rw [DR.out] at HC hd1 hd2 hd3
        obtain ⟨r, hr⟩ : ∃ r, r = (Utf8.decode u pos).1 := ⟨_, rfl⟩
        obtain ⟨d, hd⟩ : ∃ d, d = (Utf8.decode u pos).2 := ⟨_, rfl⟩
        rw [← hr] at hnx hd3 HC
        rw [← hd] at hnx hd1 hd2 HC
        clear hr hd
        obtain ⟨w3, hw3⟩ : ∃ w3, w3 = wr.iterAt (w1.heap.size + 1) u (pos + d) := ⟨_, rfl⟩
        have K3 := Lib.hid (show Kept w w3 by rw [hw3]; exact Lib.below_iterAt hk (by omega) u (pos + d))
        have I3 := Lib.hid (show w3.heap[w1.heap.size + 1]? = some (.stringIter u (pos + d)) by rw [hw3]; exact Lib.iterAt_heap wr (w1.heap.size + 1) u pos (pos + d) hit)
        have O3 := Lib.hid (show BV w3 w.heap.size vv (254 :: 255 :: Mt.pairs l) by rw [hw3]; exact ho.iterAt (by simp) hit _)
        rw [← hw3] at hnx
        have hpl := Mt.pairs_len l
        have C := Lib.hid (appendChar_any r w.heap.size vv (254 :: 255 :: Mt.pairs l) w3 O3.out (Below.size K3.out) hd3 (by simp only [List.length_cons]; omega))
        clear hw3 hit hk ho hpl hd3
        go_wp2_with fail
        (with_reducible refine C.out.mono ?_)
        rintro e w4 ⟨v4, rfl, hb4⟩
        have B4 := Lib.hid hb4
        clear hb4
        go_wp2_with fail
        go_roundg (u.size + 1 - (pos + d))
        case measure => omega
        case rel =>
          refine ⟨pos + d, l ++ [r], v4, rfl, rfl, by omega, ?_, Lib.hid ?_, B4.out.2.2 _ _ I3.out (by simp) (fun _ _ e => by cases e), Below.trans K3.out B4.out.2.1, by simp; omega⟩
          · rw [Mt.pairs_append]
            rw [show Mt.pairs [r] = Mt.pairs1 r from List.append_nil _]
            exact Or.inl B4.out.1
          · rw [List.append_assoc]; exact HR.out.trans (by rw [HC.out]; rfl)
      · obtain rfl : pos = u.size := by omega
        have hnx : ∀ ty, (Instr.next (.pointer (some ⟨w1.heap.size + 1, 0, none⟩)) true ty).run Try.prog wr = _ := fun ty => Lib.run_next_end_at wr (w1.heap.size + 1) u u.size ty hit hlt
        have hR := HR.out
        rw [List.drop_eq_nil_of_le (by rw [HL.out]; exact Nat.le_refl _), Mt.runes_nil, List.append_nil] at hR
        have HT := Lib.hid hR
        have hst := ho.string
        clear hR ho hit
        go_wp2_with fail
        go_ret
        exact ⟨by rw [HT.out]; rfl, HK.out⟩

set_option maxRecDepth 100000 in
/-- The bytes of a text's characters. -/
theorem Encode_bytes (u : ByteArray) (w : World) (hu : u.size ≤ 268435000) (h1 : Mt.bytesB u.data.toList = true) (h2 : Mt.marked (Mt.bytesV u.data.toList) = false) :
    Calls Try.prog 19 #[.string u] w fun e w' => e = .returned (.string ⟨(Mt.bytesV u.data.toList).toArray⟩) ∧ Kept w w' := by
  have HBY := Lib.hid (Bytes_any u w (by omega))
  have HP := Lib.hid (fun wx => HasPrefix_at (Mt.bytesV u.data.toList) wx)
  obtain ⟨S, hS⟩ : ∃ S : ByteArray, S = ⟨(Mt.bytesV u.data.toList).toArray⟩ := ⟨_, rfl⟩
  rw [← hS, h1] at HBY
  rw [← hS, h2] at HP
  rw [← hS]
  clear hS h1 h2
  go_enter Try.func19, Try.ntmps19
  go_wp2_with fail
  (with_reducible refine HBY.out.mono ?_)
  rintro e w1 ⟨rfl, hk1⟩
  have K1 := Lib.hid hk1
  clear hk1
  go_wp2_with fail
  (with_reducible refine (HP.out _).mono ?_)
  rintro e w2 ⟨rfl, rfl⟩
  go_wp2_with fail
  go_ret
  exact ⟨rfl, K1.out⟩
theorem Encode_any (u : ByteArray) (w : World) (hu : u.size ≤ 268435000) :
    Calls Try.prog 19 #[.string u] w fun e w' => e = .returned (.string ⟨(Mt.encodeV u.data.toList).toArray⟩) ∧ Kept w w' := by
  cases hn : (Mt.bytesB u.data.toList && !Mt.marked (Mt.bytesV u.data.toList))
  · unfold Mt.encodeV
    rw [hn]
    exact Encode_pairs u w hu hn
  · have h1 : Mt.bytesB u.data.toList = true := by
      cases h : Mt.bytesB u.data.toList
      · rw [h] at hn; exact absurd hn (by simp)
      · rfl
    have h2 : Mt.marked (Mt.bytesV u.data.toList) = false := by
      cases h : Mt.marked (Mt.bytesV u.data.toList)
      · rfl
      · rw [h1, h] at hn; exact absurd hn (by decide)
    unfold Mt.encodeV
    rw [hn]
    exact Encode_bytes u w hu h1 h2

end Go.Proofs.Ytkgaddlclfjkmaa
