/-
  What package lex's appendQuoted and Quote answer.
-/
import Derived.Test.YtkpagahnmbchjaaGreatDoorLexW1
import Derived.Deep.AppendLies
import Derived.Deep.RegionHeld3
import Derived.Outline
namespace Go.Proofs.YtkpagahnmbchjaaGreatDoor
open Go.RowKit

theorem Owns.drew {w : World} {B : Nat} {v : Value} {acc : List UInt8} (h : Owns w B v acc) : Owns w.drew B v acc := h

/-- Bytes are appended, in a region that draws its order. -/
theorem step_app_bytes {ops : Array Oper} {o : Oper} {a : Act} {K : Act → World → Prop} {Q : Exit → Act → World → Prop} {E : Prop} (hgd : o.guard = none) (s x : Operand)
    (ho : o.op = .call { callee := .builtin .append, args := #[s, x], argTypes := #[52, 52] })
    {W : World} (B : Nat) (v : Value) (acc : List UInt8) (hs : a.eval s = v) (hown : Owns W B v acc) (news : List UInt8) (g m c : Nat) (hb : Blk W g (bytesV news).toArray 5) (hm : m = news.length) (hpos : 0 < news.length)
    (hx : a.eval x = .slice (some ⟨g, 0, none⟩) m c) (hB : B ≤ W.heap.size) (hlen : acc.length + news.length ≤ 140737488355328)
    (h : ∀ v' w', Owns w' B v' (acc ++ news) → W.grownBy w' v.ownBlock → K (a.put o.dst v') w') :
    if Region.wanted o (yielded ops a.tmps) = true then Oper.wp Tryz.prog o a W K Q else E := by
  obtain ⟨i0, hi, hz0, hz1, hz2⟩ := info_parts info_u8
  subst hm
  refine step_append_lies _ hgd s x 52 ho B 5 i0 (.int .u8 0) 1 1 Tryz.underlying52 hi hz0 hz1 hz2 rfl (by decide) v acc.length (bytesV acc) hs hown ⟨g, 0, none⟩ news.length c (bytesV news) hx (by simp [bytesV])
    ?_ ?_ hpos (by unfold maxLen; omega) (by omega) hB _ rfl ?_
  · intro j u hj
    rw [Addr.add_lit, Nat.zero_add, hb.cell j]
    simpa using hj
  · intro u hu
    simp only [bytesV, List.mem_map] at hu
    obtain ⟨b, _, rfl⟩ := hu
    rfl
  · intro g' cap w' h1 h2 _ _
    refine h _ w' ?_ h2
    unfold Owns
    rw [bytesV_app, List.length_append]
    exact h1

theorem digits_at {n : Nat} (h : n < 16) (h' : n < (⟨#[48, 49, 50, 51, 52, 53, 54, 55, 56, 57, 65, 66, 67, 68, 69, 70]⟩ : ByteArray).size) : (⟨#[48, 49, 50, 51, 52, 53, 54, 55, 56, 57, 65, 66, 67, 68, 69, 70]⟩ : ByteArray)[n] = Lx.hexD n := by
  have : ∀ m : Fin 16, (⟨#[48, 49, 50, 51, 52, 53, 54, 55, 56, 57, 65, 66, 67, 68, 69, 70]⟩ : ByteArray)[m.val]'(m.isLt) = Lx.hexD m.val := by decide
  exact this ⟨n, h⟩
theorem hexD_oct {n : Nat} (h : n < 8) : Lx.hexD n = Lx.octD n := by unfold Lx.hexD Lx.octD; rw [if_pos (by omega)]

theorem IndexByte_of (l : List UInt8) (c : UInt8) (n : Int) (h : Lib.indexByte l c = n) (w : World) :
    Calls Tryz.prog 103 #[.string ⟨l.toArray⟩, .int .u8 (c.toNat : Int)] w fun e w' => e = .returned (.int .i64 n) ∧ w = w' := by
  subst h; exact IndexByte_at l c w

theorem quote_ways (c : UInt8) : ((c = 40 ∨ c = 41 ∨ c = 92) ∧ Lx.quoteB c = [92, c]) ∨
    ((c ≠ 40 ∧ c ≠ 41 ∧ c ≠ 92) ∧ ((Lib.indexByte [10, 13, 9, 8, 12] c = 0 ∧ Lx.quoteB c = [92, 110]) ∨ (Lib.indexByte [10, 13, 9, 8, 12] c = 1 ∧ Lx.quoteB c = [92, 114]) ∨ (Lib.indexByte [10, 13, 9, 8, 12] c = 2 ∧ Lx.quoteB c = [92, 116]) ∨
      (Lib.indexByte [10, 13, 9, 8, 12] c = 3 ∧ Lx.quoteB c = [92, 98]) ∨ (Lib.indexByte [10, 13, 9, 8, 12] c = 4 ∧ Lx.quoteB c = [92, 102]) ∨
      (Lib.indexByte [10, 13, 9, 8, 12] c = -1 ∧ Lx.printed c = true ∧ Lx.quoteB c = [c]) ∨ (Lib.indexByte [10, 13, 9, 8, 12] c = -1 ∧ Lx.printed c = false ∧ Lx.quoteB c = [92, Lx.octD (c.toNat / 64), Lx.octD (c.toNat / 8 % 8), Lx.octD (c.toNat % 8)]))) := by
  have := Lx.byte_all (fun c => decide (((c = 40 ∨ c = 41 ∨ c = 92) ∧ Lx.quoteB c = [92, c]) ∨
    ((c ≠ 40 ∧ c ≠ 41 ∧ c ≠ 92) ∧ ((Lib.indexByte [10, 13, 9, 8, 12] c = 0 ∧ Lx.quoteB c = [92, 110]) ∨ (Lib.indexByte [10, 13, 9, 8, 12] c = 1 ∧ Lx.quoteB c = [92, 114]) ∨ (Lib.indexByte [10, 13, 9, 8, 12] c = 2 ∧ Lx.quoteB c = [92, 116]) ∨
      (Lib.indexByte [10, 13, 9, 8, 12] c = 3 ∧ Lx.quoteB c = [92, 98]) ∨ (Lib.indexByte [10, 13, 9, 8, 12] c = 4 ∧ Lx.quoteB c = [92, 102]) ∨
      (Lib.indexByte [10, 13, 9, 8, 12] c = -1 ∧ Lx.printed c = true ∧ Lx.quoteB c = [c]) ∨ (Lib.indexByte [10, 13, 9, 8, 12] c = -1 ∧ Lx.printed c = false ∧ Lx.quoteB c = [92, Lx.octD (c.toNat / 64), Lx.octD (c.toNat / 8 % 8), Lx.octD (c.toNat % 8)]))))) (by kernel_rfl) c
  exact of_decide_eq_true this

set_option maxHeartbeats 4000000 in
theorem appendQuoted_any (c : UInt8) (B : Nat) (v : Value) (acc : List UInt8) (w : World) (ho : Owns w B v acc) (hB : B ≤ w.heap.size) (hl : acc.length ≤ 140737488300000) :
    Calls Tryz.prog 79 #[v, .int .u8 (c.toNat : Int)] w fun e w' => ∃ v', e = .returned v' ∧ Owns w' B v' (acc ++ Lx.quoteB c) ∧ Below B w w' := by
  have HO := Lib.hid ho
  have HA : ∀ (cells : Array Value) (w' : World), (w.alloc (.cells cells 5)).grownBy w' v.ownBlock → Below B w w' := fun cells w' g =>
    ((Below.refl B w).alloc hB _).grown g (by simp; omega) (fun j hj => (HO.out.lt j hj).1)
  have HAH := Lib.hid HA
  clear ho HA
  rcases quote_ways c with ⟨h, hq⟩ | ⟨⟨h1, h2, h3⟩, hh⟩
  · have HQ := Lib.hid hq
    clear hq
    rcases h with h | h | h
    all_goals
      first
        | (have e1 := byte_is h 40 rfl; clear h)
        | (have e1 := byte_is h 41 rfl; have e0 : ((c.toNat : Int) == 40) = false := by rw [h]; rfl
           clear h)
        | (have e1 := byte_is h 92 rfl; have e0 : ((c.toNat : Int) == 40) = false := by rw [h]; rfl
           have e2 : ((c.toNat : Int) == 41) = false := by rw [h]; rfl
           clear h)
      go_enter Tryz.func79, Tryz.ntmps79
      go_wp2_with (at_builtin; refine wpList_app_bytes rfl _ _ rfl B _ acc rfl HO.out [92, c] _ rfl 2 _ rfl rfl hB (by simp; omega) ?_)
      intro v' w3 hown3 hgrow
      have HO3 := Lib.hid hown3
      have HG3 := Lib.hid (HAH.out _ _ hgrow)
      clear hown3 hgrow
      go_wp2_with fail
      go_ret
      exact ⟨v', rfl, by rw [HQ.out]; exact HO3.out, HG3.out⟩
  · have e1 := byte_not h1 40 rfl
    have e2 := byte_not h2 41 rfl
    have e3 := byte_not h3 92 rfl
    clear h1 h2 h3
    rcases hh with ⟨hi, hq⟩ | ⟨hi, hq⟩ | ⟨hi, hq⟩ | ⟨hi, hq⟩ | ⟨hi, hq⟩ | ⟨hi, hp, hq⟩ | ⟨hi, hp, hq⟩
    rotate_left 5
    · have HQ := Lib.hid hq
      have HI := Lib.hid hi
      have HP := Lib.hid hp
      clear hq hi hp
      go_enter Tryz.func79, Tryz.ntmps79
      go_wp2_with fail
      refine (IndexByte_of [10, 13, 9, 8, 12] c _ HI.out _).mono ?_
      rintro e w3 ⟨rfl, rfl⟩
      go_wp2_with fail
      refine (printed_any c _).mono ?_
      rintro e w3 ⟨rfl, rfl⟩
      rw [HP.out]
      go_wp2_with (at_builtin; refine wpList_app_bytes rfl _ _ rfl B _ acc rfl HO.out [c] _ rfl 1 _ rfl rfl hB (by simp; omega) ?_)
      intro v' w3 hown3 hgrow
      have HO3 := Lib.hid hown3
      have HG3 := Lib.hid (HAH.out _ _ hgrow)
      clear hown3 hgrow
      go_wp2_with fail
      go_ret
      exact ⟨v', rfl, by rw [HQ.out]; exact HO3.out, HG3.out⟩
    · have HQ := Lib.hid hq
      have HI := Lib.hid hi
      have HP := Lib.hid hp
      clear hq hi hp
      have g1 := c.toNat_lt
      obtain ⟨n1, hn1⟩ : ∃ n, n = c.toNat / 64 := ⟨_, rfl⟩
      obtain ⟨n2, hn2⟩ : ∃ n, n = c.toNat / 8 % 8 := ⟨_, rfl⟩
      obtain ⟨n3, hn3⟩ : ∃ n, n = c.toNat % 8 := ⟨_, rfl⟩
      have k1 : (c.toNat : Int) / 64 = (n1 : Int) := by omega
      have k2 : (c.toNat : Int) / 8 % 8 = (n2 : Int) := by omega
      have k3 : (c.toNat : Int) % 8 = (n3 : Int) := by omega
      rw [← hn1, ← hn2, ← hn3] at HQ
      have l1 : n1 < 8 := by omega
      have l2 : n2 < 8 := by omega
      have l3 : n3 < 8 := by omega
      have o1 : (0 : Int) ≤ (n1 : Int) := by omega
      have o2 : (0 : Int) ≤ (n2 : Int) := by omega
      have o3 : (0 : Int) ≤ (n3 : Int) := by omega
      have p1 : (n1 : Int) < 16 := by omega
      have p2 : (n2 : Int) < 16 := by omega
      have p3 : (n3 : Int) < 16 := by omega
      have j2 : bits BinOp.and IntKind.u8 ((c.toNat : Int) / 8) 7 = (n2 : Int) := by
        rw [← k2]
        have := Lx.byte_all (fun c => bits BinOp.and IntKind.u8 ((c.toNat : Int) / 8) 7 == (c.toNat : Int) / 8 % 8) (by kernel_rfl) c
        simpa using this
      have j3 : bits BinOp.and IntKind.u8 (c.toNat : Int) 7 = (n3 : Int) := by
        rw [← k3]
        have := Lx.byte_all (fun c => bits BinOp.and IntKind.u8 (c.toNat : Int) 7 == (c.toNat : Int) % 8) (by kernel_rfl) c
        simpa using this
      have m1 : n1 < 16 := by omega
      have m2 : n2 < 16 := by omega
      have m3 : n3 < 16 := by omega
      have D1 := Lib.hid (fun h' => (digits_at (n := n1) (by omega) h').trans (hexD_oct l1))
      have D2 := Lib.hid (fun h' => (digits_at (n := n2) (by omega) h').trans (hexD_oct l2))
      have D3 := Lib.hid (fun h' => (digits_at (n := n3) (by omega) h').trans (hexD_oct l3))
      clear hn1 hn2 hn3 g1
      go_enter Tryz.func79, Tryz.ntmps79
      go_wp2_with fail
      refine (IndexByte_of [10, 13, 9, 8, 12] c _ HI.out _).mono ?_
      rintro e w3 ⟨rfl, rfl⟩
      go_wp2_with fail
      refine (printed_any c _).mono ?_
      rintro e w3 ⟨rfl, rfl⟩
      rw [HP.out]
      go_wp2_with fail
      go_region_held3 (fun _ => True) (trivial) ((refine step_app_bytes (by rfl) _ _ (by rfl) B v acc (by rfl) (HO.out.alloc _).drew [92, Lx.octD n1, Lx.octD n2, Lx.octD n3] w.heap.size 4 _ (by rw [D1.out, D2.out, D3.out]; exact (Blk.fresh w _ _).drew) (by rfl) (by simp) (by rfl) (by simp; omega) (by simp; omega) ?_; intro v' w3 hown3 hgrow))
      all_goals
        have HO3 := Lib.hid hown3
        have HG3 := Lib.hid (show Below B w w3 from ((Below.drew ((Below.refl B w).alloc hB _)).grown hgrow (by simp; omega) (fun j hj => (HO.out.lt j hj).1)))
        clear hown3 hgrow
        go_wp2_with fail
        go_ret
        exact ⟨v', rfl, by rw [HQ.out]; exact HO3.out, HG3.out⟩
    all_goals
      have HQ := Lib.hid hq
      have HI := Lib.hid hi
      clear hq hi
      go_enter Tryz.func79, Tryz.ntmps79
      go_wp2_with fail
      refine (IndexByte_of [10, 13, 9, 8, 12] c _ HI.out _).mono ?_
      rintro e w3 ⟨rfl, rfl⟩
      go_wp2_with (at_builtin; refine wpList_app_bytes rfl _ _ rfl B _ acc rfl HO.out [92, _] _ rfl 2 _ rfl rfl hB (by simp; omega) ?_)
      intro v' w3 hown3 hgrow
      have HO3 := Lib.hid hown3
      have HG3 := Lib.hid (HAH.out _ _ hgrow)
      clear hown3 hgrow
      go_wp2_with fail
      go_ret
      exact ⟨v', rfl, by rw [HQ.out]; exact HO3.out, HG3.out⟩

theorem quoteB_len (c : UInt8) : (Lx.quoteB c).length ≤ 4 := by
  have := Lx.byte_all (fun c => decide ((Lx.quoteB c).length ≤ 4)) (by kernel_rfl) c
  exact of_decide_eq_true this
theorem quote_take (s : ByteArray) (k : Nat) (h : k < s.size) : 40 :: (s.data.toList.take (k + 1)).flatMap Lx.quoteB = (40 :: (s.data.toList.take k).flatMap Lx.quoteB) ++ Lx.quoteB s[k] := by
  rw [List.take_succ_eq_append_getElem (by simpa using h), List.flatMap_append]
  simp
  rfl
theorem quote_take_len (s : ByteArray) (k : Nat) : (40 :: (s.data.toList.take k).flatMap Lx.quoteB).length ≤ 4 * s.size + 1 := by
  have key : ∀ l : List UInt8, (l.flatMap Lx.quoteB).length ≤ 4 * l.length := by
    intro l
    induction l with
    | nil => simp
    | cons a l ih => have := quoteB_len a; simp only [List.flatMap_cons, List.length_append, List.length_cons]; omega
  have h1 := key (s.data.toList.take k)
  have h2 : (s.data.toList.take k).length ≤ s.size := by simp; omega
  simp only [List.length_cons]; omega

set_option maxHeartbeats 4000000 in
theorem Quote_any (s : ByteArray) (w : World) (hs : s.size ≤ 4294967296) :
    Calls Tryz.prog 52 #[.string s] w fun e w' => e = .returned (.string ⟨(Lx.quoteV s.data.toList).toArray⟩) ∧ Kept w w' := by
  go_enter Tryz.func52, Tryz.ntmps52
  go_wp2_with fail
  have ho : Owns (w.alloc (.cells #[.int .u8 40] 5)) w.heap.size (.slice (some ⟨w.heap.size, 0, none⟩) 1 1) [40] :=
    ⟨rfl, .inr ⟨w.heap.size, 1, #[.int .u8 40], rfl, Nat.le_refl _, Blk.fresh w _ _, Nat.le_refl _, by unfold maxLen; decide, rfl, rfl⟩⟩
  have hk : Kept w (w.alloc (.cells #[.int .u8 40] 5)) := (Kept.refl w).alloc _ _
  obtain ⟨w0, hw0⟩ : ∃ w0, w0 = w.alloc (.cells #[.int .u8 40] 5) := ⟨_, rfl⟩
  rw [← hw0] at ho hk ⊢
  clear hw0
  go_loopg [3, 8] s.size (fun n v i wr => ∃ k : Nat, n = s.size - k ∧ k ≤ s.size ∧ i = .int .i64 k ∧ Owns wr w.heap.size v (40 :: (s.data.toList.take k).flatMap Lx.quoteB) ∧ Kept w wr)
  case atStart => exact ⟨0, rfl, Nat.zero_le _, rfl, ho, hk⟩
  case round =>
    clear ho hk
    obtain ⟨k, hn, hkl, rfl, ho, hk⟩ := hrel
    have HO := Lib.hid ho
    have HK := Lib.hid hk
    have hB : w.heap.size ≤ wr.heap.size := Below.size hk
    have HL := Lib.hid (quote_take_len s k)
    clear ho hk
    by_cases hlt : k < s.size
    · have HT := Lib.hid (quote_take s k hlt)
      go_wp2_with fail
      refine (appendQuoted_any s[k] w.heap.size _ _ _ HO.out hB (by have := HL.out; omega)).mono ?_
      rintro e w2 ⟨v', rfl, ho2, hb2⟩
      have HO2 := Lib.hid ho2
      have HK2 := Lib.hid (show Kept w w2 from Below.trans HK.out hb2)
      clear ho2 hb2
      go_wp2_with fail
      go_roundg (s.size - (k + 1))
      case measure => omega
      case rel => exact ⟨k + 1, rfl, by omega, by go_num, by rw [HT.out]; exact HO2.out, HK2.out⟩
    · obtain rfl : k = s.size := by omega
      have HT := Lib.hid (show 40 :: ((s.data.toList.take s.size).flatMap Lx.quoteB ++ [41]) = Lx.quoteV s.data.toList by
        rw [List.take_of_length_le (by simp)]; rfl)
      go_wp2_with (at_builtin; refine wpList_app_bytes rfl _ _ rfl w.heap.size _ _ rfl HO.out [41] _ rfl 1 _ rfl rfl hB (by have := HL.out; simp only [List.length_singleton]; omega) ?_)
      intro v' w3 hown3 hgrow
      have hcv := hown3.string
      have HG3 := Lib.hid (show Kept w w3 from ((HK.out.alloc #[.int .u8 41] 5).grown hgrow (by simp; omega) (fun j hj => (HO.out.lt j hj).1)))
      rw [HT.out] at hcv
      clear hown3 hgrow
      go_wp2_with fail
      go_ret
      exact ⟨rfl, HG3.out⟩

end Go.Proofs.YtkpagahnmbchjaaGreatDoor
