/-
  What package lex's Space answers, at every place.
-/
import Derived.Test.YtdfgbdonnpbfcaaLexTake
namespace Go.Proofs.Ytdfgbdonnpbfcaa
open Go.RowKit
theorem run_lower {P : Program} {w : World} (ts : Array TypeId) (t : TypeId) (k k' : IntKind) (x y : Int) : (Builtin.min_ ts t #[.int k x, .int k' y]).run P w = .ok (.int k (min x y)) w := by
  rw [run_min_int2]; congr 2; split <;> omega
theorem run_higher {P : Program} {w : World} (ts : Array TypeId) (t : TypeId) (k k' : IntKind) (x y : Int) : (Builtin.max_ ts t #[.int k x, .int k' y]).run P w = .ok (.int k (max x y)) w := by
  rw [run_max_int2]; congr 2; split <;> omega
attribute [local go_sem ↓] run_lower run_higher

theorem kept_over {w wr : World} {c0 c1 : Array Value} {t0 t1 : TypeId} {r : Option Nat} (h : ((w.alloc (.cells c0 t0)).alloc (.cells c1 t1)).grownBy wr r) (hr : ∀ j, r = some j → w.heap.size ≤ j) : Kept w wr :=
  (((Kept.refl w).alloc c0 t0).alloc c1 t1).grown h (by simp; omega) hr
theorem space_start (l : List UInt8) (a : Int) : ∃ k : Nat, min (max a 0) (l.length : Int) = (k : Int) ∧ k ≤ l.length ∧ Lx.spaceV l a = k + Lx.spc false (l.drop k) := by
  refine ⟨(min (max a 0) (l.length : Int)).toNat, ?_, ?_, rfl⟩ <;> omega

set_option maxHeartbeats 1000000 in
theorem Space_any (s : ByteArray) (a : Int) (w : World) (hs : s.size ≤ 9223372036854775807) :
    Calls Try.prog 34 #[.string s, .int .i64 a] w fun e w' => e = .returned (.int .i64 (Lx.spaceV s.data.toList a : Nat)) ∧ Kept w w' := by
  obtain ⟨k, hk, hkl, HV0⟩ := space_start s.data.toList a
  have HV := Lib.hid HV0
  clear HV0
  rw [show s.data.toList.length = s.size from by simp] at hk hkl
  go_enter Try.func34, Try.ntmps34
  go_wp2_with (go_at_call 43; refine (over_any s k _).mono ?_; rintro e w' ⟨rfl, rfl⟩)
  obtain ⟨b, hb⟩ : ∃ b, b = w.heap.size := ⟨_, rfl⟩
  have HB := Lib.hid hb
  have hat := at_over s k w
  rw [← hb] at hat
  rw [← hb]
  clear hb hk
  obtain ⟨w0, HW⟩ : ∃ w0, Hid (w0 = (w.alloc (.cells #[.string s] 9)).alloc (.cells #[.int .i64 k] 3)) := ⟨_, Lib.hid rfl⟩
  rw [← HW.out] at hat ⊢
  go_loopg [7] (s.size - k) (fun n _ wr => ∃ j : Nat, n = s.size - j ∧ j ≤ s.size ∧ At s b j wr ∧ w0.grownBy wr (some (b + 1)) ∧ Hid (Lx.spaceV s.data.toList a = j + Lx.spc false (s.data.toList.drop j)))
  case atStart => exact ⟨k, rfl, hkl, hat, gb_refl _ _, HV⟩
  case round =>
    obtain ⟨j, hn, hj, ha, hgb, HE⟩ := hrel
    have HG := Lib.hid hgb
    by_cases hlt : j < s.size
    · have HD := Lib.hid (drop_cons s j hlt)
      cases hp : Lx.white s[j]
      · by_cases h37 : s[j] = 37
        · have e37 : ((s[j].toNat : Int) == 37) = true := by rw [h37]; rfl
          have hbl : Lx.blank s[j] = true := by rw [h37]; rfl
          have HT := Lib.hid (show Lx.spaceV s.data.toList a = (j + 1 + Lx.tw Lx.inLine (s.data.toList.drop (j + 1))) + Lx.spc false (s.data.toList.drop (j + 1 + Lx.tw Lx.inLine (s.data.toList.drop (j + 1)))) by
            rw [HE.out, HD.out, Lx.spc, hp, h37, Lx.spc_line, List.drop_drop]; simp; omega)
          have HL := Lib.hid (Lx.tw_le Lx.inLine (s.data.toList.drop (j + 1)))
          clear h37 hgb
          go_wp2_with (first | (go_at_call 56; refine (take_yes _ #[] Lx.blank ent_blank s b j _ ha hlt hs (fits_blank _) hbl).mono ?_; rintro e w' ⟨rfl, ha', hg'⟩) | (go_at_call 45; refine (takeAll_any _ #[] Lx.inLine ent_inLine s b (j + 1) _ (by assumption) (by omega) hs (fun w => fits_inLine w)).mono ?_; rintro e w2 ⟨rfl, ha2, hg2⟩))
          go_roundg (s.size - (j + 1 + Lx.tw Lx.inLine (s.data.toList.drop (j + 1))))
          case measure => omega
          case rel => exact ⟨_, rfl, by have := HL.out; simp at this; omega, by assumption, gb_trans (gb_trans HG.out (by assumption)) (by assumption), HT⟩
        · have e37 : ((s[j].toNat : Int) == 37) = false := by rw [beq_eq_false_iff_ne]; intro h; exact h37 (UInt8.toNat_inj.1 (by have : (37 : UInt8).toNat = 37 := rfl; omega))
          have hbl : Lx.blank s[j] = false := by rw [Lx.blank, hp]; simpa using h37
          have HT := Lib.hid (show Lx.spaceV s.data.toList a = j by
            rw [HE.out, HD.out, Lx.spc, hp]; simp [h37])
          clear h37
          go_wp2_with (first | (go_at_call 56; refine (take_no _ #[] Lx.blank ent_blank s b j _ ha hlt (fits_blank _) hbl).mono ?_; rintro e w' ⟨rfl, rfl⟩) | (go_at_call 57; refine (place_any s b j _ ha).mono ?_; rintro e w2 ⟨rfl, rfl⟩))
          go_ret
          exact ⟨ret_int (by rw [HT.out]), kept_over (by rw [← HW.out]; exact HG.out) (fun i hi => by cases hi; have := HB.out; omega)⟩
      · have e37 : ((s[j].toNat : Int) == 37) = false := by
          have := Lx.byte_all (fun c => !Lx.white c || !((c.toNat : Int) == 37)) (by kernel_rfl) s[j]
          rw [hp] at this; simpa using this
        have hbl : Lx.blank s[j] = true := by rw [Lx.blank, hp]; rfl
        have HT := Lib.hid (show Lx.spaceV s.data.toList a = (j + 1) + Lx.spc false (s.data.toList.drop (j + 1)) by
          rw [HE.out, HD.out, Lx.spc, hp]; simp; omega)
        clear hgb
        go_wp2_with (go_at_call 56; refine (take_yes _ #[] Lx.blank ent_blank s b j _ ha hlt hs (fits_blank _) hbl).mono ?_; rintro e w' ⟨rfl, ha', hg'⟩)
        go_roundg (s.size - (j + 1))
        case measure => omega
        case rel => exact ⟨_, rfl, by omega, by assumption, gb_trans HG.out (by assumption), HT⟩
    · obtain rfl : j = s.size := by omega
      have HT := Lib.hid (show Lx.spaceV s.data.toList a = s.size by
        rw [HE.out, drop_end s s.size (Nat.le_refl _), Lx.spc]; rfl)
      go_wp2_with (first | (go_at_call 56; refine (take_end _ #[] s b _ ha).mono ?_; rintro e w' ⟨rfl, rfl⟩) | (go_at_call 57; refine (place_any s b _ _ ha).mono ?_; rintro e w2 ⟨rfl, rfl⟩))
      go_ret
      exact ⟨ret_int (by rw [HT.out]), kept_over (by rw [← HW.out]; exact HG.out) (fun i hi => by cases hi; have := HB.out; omega)⟩

end Go.Proofs.Ytdfgbdonnpbfcaa
