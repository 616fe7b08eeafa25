/-
  What package lex's NameOf answers.
-/
import Derived.Test.YtkpagahnmbchjaaGreatDoorLexQuote
namespace Go.Proofs.YtkpagahnmbchjaaGreatDoor
open Go.RowKit

theorem nameB_ways (c : UInt8) : ((Lx.reg c && c != 35 && Lx.printed c) = true ∧ Lx.nameB c = [c]) ∨ ((Lx.reg c && c != 35 && Lx.printed c) = false ∧ Lx.nameB c = [35, Lx.hexD (c.toNat / 16), Lx.hexD (c.toNat % 16)]) := by
  unfold Lx.nameB
  cases h : (Lx.reg c && c != 35 && Lx.printed c)
  · exact .inr ⟨rfl, by simp⟩
  · exact .inl ⟨rfl, by simp⟩
theorem nameB_len (c : UInt8) : (Lx.nameB c).length ≤ 4 := by
  have := Lx.byte_all (fun c => decide ((Lx.nameB c).length ≤ 4)) (by kernel_rfl) c
  exact of_decide_eq_true this
theorem name_take (s : ByteArray) (k : Nat) (h : k < s.size) : 47 :: (s.data.toList.take (k + 1)).flatMap Lx.nameB = (47 :: (s.data.toList.take k).flatMap Lx.nameB) ++ Lx.nameB s[k] := by
  rw [List.take_succ_eq_append_getElem (by simpa using h), List.flatMap_append]
  simp
  rfl
theorem name_take_len (s : ByteArray) (k : Nat) : (47 :: (s.data.toList.take k).flatMap Lx.nameB).length ≤ 4 * s.size + 1 := by
  have key : ∀ l : List UInt8, (l.flatMap Lx.nameB).length ≤ 4 * l.length := by
    intro l
    induction l with
    | nil => simp
    | cons a l ih => have := nameB_len a; simp only [List.flatMap_cons, List.length_append, List.length_cons]; omega
  have h1 := key (s.data.toList.take k)
  have h2 : (s.data.toList.take k).length ≤ s.size := by simp; omega
  simp only [List.length_cons]; omega

set_option maxHeartbeats 4000000 in
theorem NameOf_any (s : ByteArray) (w : World) (hs : s.size ≤ 4294967296) :
    Calls Tryz.prog 51 #[.string s] w fun e w' => e = .returned (.string ⟨(Lx.nameV s.data.toList).toArray⟩) ∧ Kept w w' := by
  go_enter Tryz.func51, Tryz.ntmps51
  go_wp2_with fail
  have ho : Owns (w.alloc (.cells #[.int .u8 47] 5)) w.heap.size (.slice (some ⟨w.heap.size, 0, none⟩) 1 1) [47] :=
    ⟨rfl, .inr ⟨w.heap.size, 1, #[.int .u8 47], rfl, Nat.le_refl _, Blk.fresh w _ _, Nat.le_refl _, by unfold maxLen; decide, rfl, rfl⟩⟩
  have hk : Kept w (w.alloc (.cells #[.int .u8 47] 5)) := (Kept.refl w).alloc _ _
  obtain ⟨w0, hw0⟩ : ∃ w0, w0 = w.alloc (.cells #[.int .u8 47] 5) := ⟨_, rfl⟩
  rw [← hw0] at ho hk ⊢
  clear hw0
  go_loopg [3, 9] s.size (fun n v i wr => ∃ k : Nat, n = s.size - k ∧ k ≤ s.size ∧ i = .int .i64 k ∧ Owns wr w.heap.size v (47 :: (s.data.toList.take k).flatMap Lx.nameB) ∧ Kept w wr)
  case atStart => exact ⟨0, rfl, Nat.zero_le _, rfl, ho, hk⟩
  case round =>
    clear ho hk
    obtain ⟨k, hn, hkl, rfl, ho, hk⟩ := hrel
    have HO := Lib.hid ho
    have HK := Lib.hid hk
    have hB : w.heap.size ≤ wr.heap.size := Below.size hk
    have HL := Lib.hid (name_take_len s k)
    clear ho hk
    by_cases hlt : k < s.size
    · have HT := Lib.hid (name_take s k hlt)
      obtain ⟨c, hc⟩ : ∃ c, c = s[k] := ⟨_, rfl⟩
      have HC := Lib.hid hc
      clear hc
      rcases nameB_ways s[k] with ⟨hy, hq⟩ | ⟨hy, hq⟩
      · rw [Bool.and_eq_true, Bool.and_eq_true] at hy
        obtain ⟨⟨y1, y2⟩, y3⟩ := hy
        have e35 := byte_not (show s[k] ≠ 35 by simpa using y2) 35 rfl
        have HQ := Lib.hid hq
        clear y2 hq
        go_wp2_with fail
        refine (regular_any _ _).mono ?_
        rintro e w2 ⟨rfl, rfl⟩
        rw [y1]
        go_wp2_with fail
        refine (printed_any _ _).mono ?_
        rintro e w2 ⟨rfl, rfl⟩
        rw [y3]
        go_wp2_with (at_builtin; refine wpList_app_bytes rfl _ _ rfl w.heap.size _ _ rfl HO.out [s[k]] _ rfl 1 _ rfl rfl hB (by have := HL.out; simp only [List.length_singleton]; omega) ?_)
        intro v' w3 hown3 hgrow
        have HO3 := Lib.hid hown3
        have HG3 := Lib.hid (show Kept w w3 from ((HK.out.alloc #[.int .u8 (s[k].toNat : Int)] 5).grown hgrow (by simp; omega) (fun j hj => (HO.out.lt j hj).1)))
        clear hown3 hgrow
        go_wp2_with fail
        go_roundg (s.size - (k + 1))
        case measure => omega
        case rel => exact ⟨k + 1, rfl, by omega, by go_num, by rw [HT.out, HQ.out]; exact HO3.out, HG3.out⟩
      · have HQ := Lib.hid hq
        have g1 := s[k].toNat_lt
        obtain ⟨n1, hn1⟩ : ∃ n, n = s[k].toNat / 16 := ⟨_, rfl⟩
        obtain ⟨n2, hn2⟩ : ∃ n, n = s[k].toNat % 16 := ⟨_, rfl⟩
        have k1 : (s[k].toNat : Int) / 16 = (n1 : Int) := by omega
        have k2 : (s[k].toNat : Int) % 16 = (n2 : Int) := by omega
        rw [← hn1, ← hn2] at HQ
        have j2 : bits BinOp.and IntKind.u8 (s[k].toNat : Int) 15 = (n2 : Int) := by
          rw [← k2]
          have := Lx.byte_all (fun c => bits BinOp.and IntKind.u8 (c.toNat : Int) 15 == (c.toNat : Int) % 16) (by kernel_rfl) s[k]
          simpa using this
        have m1 : n1 < 16 := by omega
        have m2 : n2 < 16 := by omega
        have o1 : (0 : Int) ≤ (n1 : Int) := by omega
        have o2 : (0 : Int) ≤ (n2 : Int) := by omega
        have p1 : (n1 : Int) < 16 := by omega
        have p2 : (n2 : Int) < 16 := by omega
        have D1 := Lib.hid (fun h' => (digits_at (n := n1) m1 h'))
        have D2 := Lib.hid (fun h' => (digits_at (n := n2) m2 h'))
        clear hn1 hn2 g1 hq
        have hways : (Lx.reg s[k] = false) ∨ (Lx.reg s[k] = true ∧ ((s[k].toNat : Int) == 35) = true) ∨ (Lx.reg s[k] = true ∧ ((s[k].toNat : Int) == 35) = false ∧ Lx.printed s[k] = false) := by
          cases h1 : Lx.reg s[k]
          · exact .inl rfl
          · by_cases h2 : s[k] = 35
            · exact .inr (.inl ⟨rfl, byte_is h2 35 rfl⟩)
            · refine .inr (.inr ⟨rfl, byte_not h2 35 rfl, ?_⟩)
              rw [h1] at hy; simpa [h2] using hy
        clear hy
        rcases hways with y1 | ⟨y1, y2⟩ | ⟨y1, y2, y3⟩
        · go_wp2_with fail
          refine (regular_any _ _).mono ?_
          rintro e w2 ⟨rfl, rfl⟩
          rw [y1]
          go_wp2_with fail
          go_region_held3 (fun _ => True) (trivial) ((refine step_app_bytes (by rfl) _ _ (by rfl) w.heap.size _ _ (by rfl) (HO.out.alloc _).drew [35, Lx.hexD n1, Lx.hexD n2] wr.heap.size 3 _ (by rw [D1.out, D2.out]; exact (Blk.fresh wr _ _).drew) (by rfl) (by simp) (by rfl) (by simp; omega) (by have := HL.out; simp only [List.length_cons, List.length_nil] at this ⊢; omega) ?_; intro v' w3 hown3 hgrow))
          all_goals
            have HO3 := Lib.hid hown3
            have HG3 := Lib.hid (show Kept w w3 from (Below.drew (HK.out.alloc _ _)).grown hgrow (by simp; omega) (fun j hj => (HO.out.lt j hj).1))
            clear hown3 hgrow
            go_wp2_with fail
            go_roundg (s.size - (k + 1))
            case measure => omega
            case rel => exact ⟨k + 1, rfl, by omega, by go_num, by rw [HT.out, HQ.out]; exact HO3.out, HG3.out⟩
        · go_wp2_with fail
          refine (regular_any _ _).mono ?_
          rintro e w2 ⟨rfl, rfl⟩
          rw [y1]
          go_wp2_with fail
          go_region_held3 (fun _ => True) (trivial) ((refine step_app_bytes (by rfl) _ _ (by rfl) w.heap.size _ _ (by rfl) (HO.out.alloc _).drew [35, Lx.hexD n1, Lx.hexD n2] wr.heap.size 3 _ (by rw [D1.out, D2.out]; exact (Blk.fresh wr _ _).drew) (by rfl) (by simp) (by rfl) (by simp; omega) (by have := HL.out; simp only [List.length_cons, List.length_nil] at this ⊢; omega) ?_; intro v' w3 hown3 hgrow))
          all_goals
            have HO3 := Lib.hid hown3
            have HG3 := Lib.hid (show Kept w w3 from (Below.drew (HK.out.alloc _ _)).grown hgrow (by simp; omega) (fun j hj => (HO.out.lt j hj).1))
            clear hown3 hgrow
            go_wp2_with fail
            go_roundg (s.size - (k + 1))
            case measure => omega
            case rel => exact ⟨k + 1, rfl, by omega, by go_num, by rw [HT.out, HQ.out]; exact HO3.out, HG3.out⟩
        · go_wp2_with fail
          refine (regular_any _ _).mono ?_
          rintro e w2 ⟨rfl, rfl⟩
          rw [y1]
          go_wp2_with fail
          refine (printed_any _ _).mono ?_
          rintro e w2 ⟨rfl, rfl⟩
          rw [y3]
          go_wp2_with fail
          go_region_held3 (fun _ => True) (trivial) ((refine step_app_bytes (by rfl) _ _ (by rfl) w.heap.size _ _ (by rfl) (HO.out.alloc _).drew [35, Lx.hexD n1, Lx.hexD n2] wr.heap.size 3 _ (by rw [D1.out, D2.out]; exact (Blk.fresh wr _ _).drew) (by rfl) (by simp) (by rfl) (by simp; omega) (by have := HL.out; simp only [List.length_cons, List.length_nil] at this ⊢; omega) ?_; intro v' w3 hown3 hgrow))
          all_goals
            have HO3 := Lib.hid hown3
            have HG3 := Lib.hid (show Kept w w3 from (Below.drew (HK.out.alloc _ _)).grown hgrow (by simp; omega) (fun j hj => (HO.out.lt j hj).1))
            clear hown3 hgrow
            go_wp2_with fail
            go_roundg (s.size - (k + 1))
            case measure => omega
            case rel => exact ⟨k + 1, rfl, by omega, by go_num, by rw [HT.out, HQ.out]; exact HO3.out, HG3.out⟩
    · obtain rfl : k = s.size := by omega
      have HT := Lib.hid (show (47 :: (s.data.toList.take s.size).flatMap Lx.nameB) = Lx.nameV s.data.toList by
        rw [List.take_of_length_le (by simp)]; rfl)
      have hcv := HO.out.string
      rw [HT.out] at hcv
      go_wp2_with fail
      go_ret
      exact ⟨rfl, HK.out⟩

end Go.Proofs.YtkpagahnmbchjaaGreatDoor
