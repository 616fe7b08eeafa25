/-
  What the document's Space of layer 3 is, at every place.
-/
import Derived.Test.YtoakbcjdkohoiaaLexRefBytes
namespace Go.Proofs.Ytoakbcjdkohoiaa
open Go.RowKit
theorem run_lower' {P : Program} {w : World} (ts : Array TypeId) (t : TypeId) (k k' : IntKind) (x y : Int) : (Builtin.min_ ts t #[.int k x, .int k' y]).run P w = .ok (.int k (min x y)) w := by
  rw [run_min_int2]; congr 2; split <;> omega
theorem run_higher' {P : Program} {w : World} (ts : Array TypeId) (t : TypeId) (k k' : IntKind) (x y : Int) : (Builtin.max_ ts t #[.int k x, .int k' y]).run P w = .ok (.int k (max x y)) w := by
  rw [run_max_int2]; congr 2; split <;> omega
attribute [local go_sem ↓] run_lower' run_higher'

theorem rspace_start (l : List UInt8) (a : Int) : ∃ k : Nat, min (max a 0) (l.length : Int) = (k : Int) ∧ k ≤ l.length ∧ Lx.spaceV l a = k + Lx.spc false (l.drop k) := by
  refine ⟨(min (max a 0) (l.length : Int)).toNat, ?_, ?_, rfl⟩ <;> omega

set_option maxHeartbeats 4000000 in
theorem RSpace_any (s : ByteArray) (a : Int) (w : World) (hs : s.size ≤ 4294967296) :
    Calls Try.prog 14 #[.string s, .int .i64 a] w fun e w' => e = .returned (.int .i64 (Lx.spaceV s.data.toList a : Nat)) ∧ w = w' := by
  obtain ⟨k, hk, hkl, HV0⟩ := rspace_start s.data.toList a
  have HV := Lib.hid HV0
  clear HV0
  rw [show s.data.toList.length = s.size from by simp] at hk hkl
  go_enter Try.func14, Try.ntmps14
  go_wp2_with fail
  clear hk
  go_loopg [1] (s.size - k) (fun n i wr => ∃ j : Nat, n = s.size - j ∧ j ≤ s.size ∧ i = .int .i64 j ∧ wr = w ∧ Hid (Lx.spaceV s.data.toList a = j + Lx.spc false (s.data.toList.drop j)))
  case atStart => exact ⟨k, rfl, hkl, rfl, rfl, HV⟩
  case round =>
    obtain ⟨j, hn, hj, rfl, rfl, HE⟩ := hrel
    by_cases hlt : j < s.size
    · have HD := Lib.hid (rdrop_cons s j hlt)
      cases hp : Lx.white s[j]
      · have HPW := Lib.hid hp
        by_cases h37 : s[j] = 37
        · have e37 : ((s[j].toNat : Int) != 37) = false := by rw [h37]; rfl
          have HT := Lib.hid (show Lx.spaceV s.data.toList a = j + Lx.spc true (s.data.toList.drop j) by
            rw [HE.out, HD.out, h37]; rfl)
          have HH37 := Lib.hid h37
          clear hp h37
          go_wp2_with fail
          (with_reducible refine (RWhite_any _ _).mono ?_)
          rintro e w2 ⟨rfl, rfl⟩
          rw [HPW.out]
          go_wp2_with fail
          go_loopg [1] (s.size - j) (fun n i wr2 => ∃ i2 : Nat, n = s.size - i2 ∧ j ≤ i2 ∧ i2 ≤ s.size ∧ i = .int .i64 i2 ∧ wr2 = wr ∧ Hid (Lx.spaceV s.data.toList a = i2 + Lx.spc true (s.data.toList.drop i2)))
          case atStart => exact ⟨j, rfl, Nat.le_refl _, hj, rfl, rfl, HT⟩
          case round =>
            obtain ⟨i2, hn2, hj2, hi2, rfl, rfl, HE2⟩ := hrel
            by_cases hlt2 : i2 < s.size
            · have HD2 := Lib.hid (rdrop_cons s i2 hlt2)
              have hin : i2 = j → Lx.inLine s[i2] = true := fun e => by subst e; rw [HH37.out]; rfl
              by_cases h10 : s[i2] = 10
              · have e1 : ((s[i2].toNat : Int) != 10) = false := by rw [h10]; rfl
                have hne : i2 ≠ j := fun e => by have := hin e; rw [h10] at this; exact absurd this (by decide)
                have HT2 := Lib.hid (show Lx.spaceV s.data.toList a = i2 + Lx.spc false (s.data.toList.drop i2) by
                  rw [HE2.out, HD2.out, h10]; rfl)
                clear h10 hin
                go_wp2_with fail
                go_roundg (s.size - i2)
                case measure => omega
                case rel => exact ⟨i2, rfl, hi2, rfl, rfl, HT2⟩
              · have e1 : ((s[i2].toNat : Int) != 10) = true := by simp only [bne, rbyte_not h10 10 rfl]; rfl
                by_cases h13 : s[i2] = 13
                · have e2 : ((s[i2].toNat : Int) != 13) = false := by rw [h13]; rfl
                  have hne : i2 ≠ j := fun e => by have := hin e; rw [h13] at this; exact absurd this (by decide)
                  have HT2 := Lib.hid (show Lx.spaceV s.data.toList a = i2 + Lx.spc false (s.data.toList.drop i2) by
                    rw [HE2.out, HD2.out, h13]; rfl)
                  clear h10 h13 hin
                  go_wp2_with fail
                  go_roundg (s.size - i2)
                  case measure => omega
                  case rel => exact ⟨i2, rfl, hi2, rfl, rfl, HT2⟩
                · have e2 : ((s[i2].toNat : Int) != 13) = true := by simp only [bne, rbyte_not h13 13 rfl]; rfl
                  have HT2 := Lib.hid (show Lx.spaceV s.data.toList a = i2 + 1 + Lx.spc true (s.data.toList.drop (i2 + 1)) by
                    rw [HE2.out, HD2.out, Lx.spc, if_pos (by simp [Lx.inLine, h10, h13])]; omega)
                  clear h10 h13 hin
                  go_wp2_with fail
                  go_roundg (s.size - (i2 + 1))
                  case measure => omega
                  case rel => exact ⟨i2 + 1, rfl, by omega, by omega, by go_num, rfl, HT2⟩
            · obtain rfl : i2 = s.size := by omega
              have HT2 := Lib.hid (show Lx.spaceV s.data.toList a = s.size + Lx.spc false (s.data.toList.drop s.size) by
                rw [HE2.out, rdrop_end s s.size (Nat.le_refl _)]; rfl)
              go_wp2_with fail
              go_roundg (s.size - s.size)
              case measure => omega
              case rel => exact ⟨s.size, rfl, Nat.le_refl _, rfl, rfl, HT2⟩
        · have e37 : ((s[j].toNat : Int) != 37) = true := by simp only [bne, rbyte_not h37 37 rfl]; rfl
          have HT := Lib.hid (show Lx.spaceV s.data.toList a = j by rw [HE.out, HD.out, Lx.spc, hp]; simp [h37])
          clear h37 hp
          go_wp2_with fail
          (with_reducible refine (RWhite_any _ _).mono ?_)
          rintro e w2 ⟨rfl, rfl⟩
          rw [HPW.out]
          go_wp2_with fail
          go_ret
          exact ⟨ret_int (by have := HT.out; omega), rfl⟩
      · have HPW := Lib.hid hp
        have HT := Lib.hid (show Lx.spaceV s.data.toList a = (j + 1) + Lx.spc false (s.data.toList.drop (j + 1)) by
          rw [HE.out, HD.out, Lx.spc, hp]; simp; omega)
        clear hp
        go_wp2_with fail
        (with_reducible refine (RWhite_any _ _).mono ?_)
        rintro e w2 ⟨rfl, rfl⟩
        rw [HPW.out]
        go_wp2_with fail
        go_roundg (s.size - (j + 1))
        case measure => omega
        case rel => exact ⟨j + 1, rfl, by omega, by go_num, rfl, HT⟩
    · obtain rfl : j = s.size := by omega
      have HT := Lib.hid (show Lx.spaceV s.data.toList a = s.size by rw [HE.out, rdrop_end s s.size (Nat.le_refl _)]; rfl)
      go_wp2_with fail
      go_ret
      exact ⟨ret_int (by have := HT.out; omega), rfl⟩

end Go.Proofs.Ytoakbcjdkohoiaa
