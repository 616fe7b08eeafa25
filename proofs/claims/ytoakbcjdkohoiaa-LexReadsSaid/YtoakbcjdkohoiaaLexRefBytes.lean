/-
  What the document's answer for layer 3 says of one byte, and of bytes one behind the other: White, Delim, regular, hex, run, Space.
-/
import Derived.Test.YtoakbcjdkohoiaaKept
import Derived.Test.YtoakbcjdkohoiaaFixWalks
import Derived.Test.YtoakbcjdkohoiaaLexMath
import Derived.Deep.LoopGhost
namespace Go.Proofs.Ytoakbcjdkohoiaa
open Go.RowKit

theorem rbyte_is {c d : UInt8} (h : c = d) (n : Int) (hn : (d.toNat : Int) = n) : ((c.toNat : Int) == n) = true := by
  subst h; subst hn; simp
theorem rbyte_not {c d : UInt8} (h : c ≠ d) (n : Int) (hn : (d.toNat : Int) = n) : ((c.toNat : Int) == n) = false := by
  subst hn
  rw [beq_eq_false_iff_ne]
  intro e
  exact h (UInt8.toNat_inj.1 (by omega))

theorem RWhite_any (c : UInt8) (w : World) :
    Calls Try.prog 16 #[.int .u8 (c.toNat : Int)] w fun e w' => e = .returned (.bool (Lx.white c)) ∧ w = w' := by
  have H := Lib.hid (show Lx.white c = ((c.toNat : Int) == 0 || (c.toNat : Int) == 9 || (c.toNat : Int) == 10 || (c.toNat : Int) == 12 || (c.toNat : Int) == 13 || (c.toNat : Int) == 32) by
    have := Lx.byte_all (fun c => Lx.white c == ((c.toNat : Int) == 0 || (c.toNat : Int) == 9 || (c.toNat : Int) == 10 || (c.toNat : Int) == 12 || (c.toNat : Int) == 13 || (c.toNat : Int) == 32)) (by kernel_rfl) c
    simpa using this)
  go_enter Try.func16, Try.ntmps16
  go_wp2
  all_goals
    go_ret
    refine ⟨ret_bool ?_, rfl⟩
    rw [H.out] <;> simp [*]

theorem delim_from (c : UInt8) : Lx.delim c = ([40, 41, 60, 62, 91, 93, 123, 125, 47, 37].drop 0).contains c := by
  have := Lx.byte_all (fun c => Lx.delim c == ([40, 41, 60, 62, 91, 93, 123, 125, 47, 37].drop 0).contains c) (by kernel_rfl) c
  simpa using this

set_option maxHeartbeats 1000000 in
theorem RDelim_any (c : UInt8) (w : World) :
    Calls Try.prog 18 #[.int .u8 (c.toNat : Int)] w fun e w' => e = .returned (.bool (Lx.delim c)) ∧ w = w' := by
  go_enter Try.func18, Try.ntmps18
  go_wp2
  go_loop [4] (fun i => ∃ k : Nat, k ≤ 10 ∧ i = .int .i64 k ∧ Hid (Lx.delim c = ([40, 41, 60, 62, 91, 93, 123, 125, 47, 37].drop k).contains c)) (fun i => 10 - (intOf i).toNat)
  case atStart => exact ⟨0, by omega, rfl, Lib.hid (delim_from c)⟩
  case round =>
    obtain ⟨k, hk, rfl, HE⟩ := hrel
    by_cases hlt : k < 10
    · have hz : k < (⟨#[40, 41, 60, 62, 91, 93, 123, 125, 47, 37]⟩ : ByteArray).size := hlt
      have HD := Lib.hid (show [40, 41, 60, 62, 91, 93, 123, 125, 47, 37].drop k = (⟨#[40, 41, 60, 62, 91, 93, 123, 125, 47, 37]⟩ : ByteArray)[k] :: [40, 41, 60, 62, 91, 93, 123, 125, 47, 37].drop (k + 1) from List.drop_eq_getElem_cons (by simpa using hlt))
      by_cases he : (⟨#[40, 41, 60, 62, 91, 93, 123, 125, 47, 37]⟩ : ByteArray)[k] = c
      · have e1 := rbyte_is he (c.toNat : Int) rfl
        have HT := Lib.hid (show Lx.delim c = true by rw [HE.out, HD.out, he]; simp)
        clear he
        go_wp2
        go_ret
        exact ⟨ret_bool HT.out.symm, rfl⟩
      · have e1 := rbyte_not he (c.toNat : Int) rfl
        have HT := Lib.hid (show Lx.delim c = ([40, 41, 60, 62, 91, 93, 123, 125, 47, 37].drop (k + 1)).contains c by
          rw [HE.out, HD.out, List.contains_cons, show (c == (⟨#[40, 41, 60, 62, 91, 93, 123, 125, 47, 37]⟩ : ByteArray)[k]) = false from beq_eq_false_iff_ne.2 (Ne.symm he), Bool.false_or])
        clear he
        go_wp2
        go_round
        case rel => exact ⟨k + 1, by omega, by go_num, HT⟩
        case measure => simp [intOf]; omega
    · obtain rfl : k = 10 := by omega
      have HT := Lib.hid (show Lx.delim c = false by rw [HE.out]; rfl)
      go_wp2
      go_ret
      exact ⟨ret_bool HT.out.symm, rfl⟩

theorem Rregular_any (c : UInt8) (w : World) :
    Calls Try.prog 77 #[.int .u8 (c.toNat : Int)] w fun e w' => e = .returned (.bool (Lx.reg c)) ∧ w = w' := by
  have H := Lib.hid (show Lx.reg c = (!Lx.white c && !Lx.delim c) from rfl)
  cases h : Lx.white c
  · have H1 := Lib.hid (show Lx.reg c = !Lx.delim c by rw [H.out, h]; rfl)
    clear H
    go_enter Try.func77, Try.ntmps77
    go_wp2_with (first | (go_at_call 16; refine (RWhite_any c _).mono ?_; rintro e w' ⟨rfl, rfl⟩) | (go_at_call 18; refine (RDelim_any c _).mono ?_; rintro e w' ⟨rfl, rfl⟩))
    go_ret
    exact ⟨ret_bool H1.out.symm, rfl⟩
  · have H1 := Lib.hid (show Lx.reg c = false by rw [H.out, h]; rfl)
    clear H
    go_enter Try.func77, Try.ntmps77
    go_wp2_with (first | (go_at_call 16; refine (RWhite_any c _).mono ?_; rintro e w' ⟨rfl, rfl⟩) | (go_at_call 18; refine (RDelim_any c _).mono ?_; rintro e w' ⟨rfl, rfl⟩))
    go_ret
    exact ⟨ret_bool H1.out.symm, rfl⟩

/-- A digit's value, or -1. -/
def hexI (c : UInt8) : Int := if Lx.isHex c then (Lx.hexV c).toNat else -1
def lowD : ByteArray := ⟨#[48, 49, 50, 51, 52, 53, 54, 55, 56, 57, 97, 98, 99, 100, 101, 102]⟩
def highD : ByteArray := ⟨#[48, 49, 50, 51, 52, 53, 54, 55, 56, 57, 65, 66, 67, 68, 69, 70]⟩
theorem hexI_hit (c : UInt8) (k : Nat) (h : k < 16) (hc : lowD[k]'h = c ∨ highD[k]'h = c) : hexI c = k := by
  have key : ∀ k : Fin 16, hexI (lowD[k.val]'k.isLt) = k.val ∧ hexI (highD[k.val]'k.isLt) = k.val := by decide
  have := key ⟨k, h⟩
  rcases hc with rfl | rfl
  · exact this.1
  · exact this.2
theorem hexI_miss (c : UInt8) (h : ∀ (k : Nat) (h : k < 16), lowD[k]'h ≠ c ∧ highD[k]'h ≠ c) : hexI c = -1 := by
  have key : Lx.isHex c = true → ∃ k : Fin 16, lowD[k.val]'k.isLt = c ∨ highD[k.val]'k.isLt = c := by
    have := Lx.byte_all (fun c => !Lx.isHex c || decide (∃ k : Fin 16, lowD[k.val]'k.isLt = c ∨ highD[k.val]'k.isLt = c)) (by kernel_rfl) c
    intro e
    rw [e] at this
    simpa using this
  unfold hexI
  rw [if_neg]
  intro e
  obtain ⟨k, hk⟩ := key e
  rcases hk with hk | hk
  · exact (h k.val k.isLt).1 hk
  · exact (h k.val k.isLt).2 hk

set_option maxHeartbeats 1000000 in
theorem Rhex_any (c : UInt8) (w : World) :
    Calls Try.prog 59 #[.int .u8 (c.toNat : Int)] w fun e w' => e = .returned (.int .i64 (hexI c)) ∧ w = w' := by
  go_enter Try.func59, Try.ntmps59
  go_wp2
  go_loop [3] (fun i => ∃ k : Nat, k ≤ 16 ∧ i = .int .i64 k ∧ Hid (∀ (j : Nat) (h : j < 16), j < k → lowD[j]'h ≠ c ∧ highD[j]'h ≠ c)) (fun i => 16 - (intOf i).toNat)
  case atStart => exact ⟨0, by omega, rfl, Lib.hid (fun j h hj => by omega)⟩
  case round =>
    obtain ⟨k, hk, rfl, HE⟩ := hrel
    by_cases hlt : k < 16
    · have hz : k < (⟨#[48, 49, 50, 51, 52, 53, 54, 55, 56, 57, 97, 98, 99, 100, 101, 102]⟩ : ByteArray).size := hlt
      have hz2 : k < (⟨#[48, 49, 50, 51, 52, 53, 54, 55, 56, 57, 65, 66, 67, 68, 69, 70]⟩ : ByteArray).size := hlt
      by_cases he : (⟨#[48, 49, 50, 51, 52, 53, 54, 55, 56, 57, 97, 98, 99, 100, 101, 102]⟩ : ByteArray)[k] = c
      · have e1 : ((c.toNat : Int) == (((⟨#[48, 49, 50, 51, 52, 53, 54, 55, 56, 57, 97, 98, 99, 100, 101, 102]⟩ : ByteArray)[k]).toNat : Int)) = true := rbyte_is he.symm _ rfl
        have HT := Lib.hid (hexI_hit c k hlt (.inl he))
        clear he
        go_wp2
        go_ret
        exact ⟨ret_int HT.out.symm, rfl⟩
      · have e1 : ((c.toNat : Int) == (((⟨#[48, 49, 50, 51, 52, 53, 54, 55, 56, 57, 97, 98, 99, 100, 101, 102]⟩ : ByteArray)[k]).toNat : Int)) = false := rbyte_not (Ne.symm he) _ rfl
        by_cases he2 : (⟨#[48, 49, 50, 51, 52, 53, 54, 55, 56, 57, 65, 66, 67, 68, 69, 70]⟩ : ByteArray)[k] = c
        · have e2 : ((c.toNat : Int) == (((⟨#[48, 49, 50, 51, 52, 53, 54, 55, 56, 57, 65, 66, 67, 68, 69, 70]⟩ : ByteArray)[k]).toNat : Int)) = true := rbyte_is he2.symm _ rfl
          have HT := Lib.hid (hexI_hit c k hlt (.inr he2))
          clear he he2
          go_wp2
          go_ret
          exact ⟨ret_int HT.out.symm, rfl⟩
        · have e2 : ((c.toNat : Int) == (((⟨#[48, 49, 50, 51, 52, 53, 54, 55, 56, 57, 65, 66, 67, 68, 69, 70]⟩ : ByteArray)[k]).toNat : Int)) = false := rbyte_not (Ne.symm he2) _ rfl
          have HT := Lib.hid (show ∀ (j : Nat) (h : j < 16), j < k + 1 → lowD[j]'h ≠ c ∧ highD[j]'h ≠ c from fun j h hj => by
            by_cases hjk : j < k
            · exact HE.out j h hjk
            · obtain rfl : j = k := by omega
              exact ⟨he, he2⟩)
          clear he he2
          go_wp2
          go_round
          case rel => exact ⟨k + 1, by omega, by go_num, HT⟩
          case measure => simp [intOf]; omega
    · obtain rfl : k = 16 := by omega
      have HT := Lib.hid (hexI_miss c (fun j h => HE.out j h h))
      go_wp2
      go_ret
      exact ⟨ret_int HT.out.symm, rfl⟩

theorem rdrop_cons (s : ByteArray) (k : Nat) (h : k < s.size) : s.data.toList.drop k = s[k] :: s.data.toList.drop (k + 1) := by
  rw [List.drop_eq_getElem_cons (by simpa using h)]; rfl
theorem rdrop_end (s : ByteArray) (k : Nat) (h : s.size ≤ k) : s.data.toList.drop k = [] := List.drop_eq_nil_of_le (by simpa using h)

set_option maxHeartbeats 1000000 in
theorem Rrun_any (s : ByteArray) (k : Nat) (w : World) (hk : k ≤ s.size) (hs : s.size ≤ 4294967296) :
    Calls Try.prog 58 #[.string s, .int .i64 k] w fun e w' => e = .returned (.int .i64 ((k + Lx.tw Lx.reg (s.data.toList.drop k) : Nat) : Int)) ∧ w = w' := by
  go_enter Try.func58, Try.ntmps58
  go_wp2
  go_loop [1] (fun i => ∃ j : Nat, j ≤ s.size ∧ i = .int .i64 j ∧ Hid (j + Lx.tw Lx.reg (s.data.toList.drop j) = k + Lx.tw Lx.reg (s.data.toList.drop k))) (fun i => s.size - (intOf i).toNat)
  case atStart => exact ⟨k, hk, rfl, Lib.hid rfl⟩
  case round =>
    obtain ⟨j, hj, rfl, HE⟩ := hrel
    by_cases hlt : j < s.size
    · have HD := Lib.hid (rdrop_cons s j hlt)
      cases hp : Lx.reg s[j]
      · have HT := Lib.hid (show k + Lx.tw Lx.reg (s.data.toList.drop k) = j by rw [← HE.out, HD.out, Lx.tw, hp]; simp)
        go_wp2_with (go_at_call 77; refine (Rregular_any _ _).mono ?_; rintro e w' ⟨rfl, rfl⟩)
        go_ret
        exact ⟨ret_int (by have := HT.out; omega), rfl⟩
      · have HT := Lib.hid (show j + 1 + Lx.tw Lx.reg (s.data.toList.drop (j + 1)) = k + Lx.tw Lx.reg (s.data.toList.drop k) by rw [← HE.out, HD.out, Lx.tw, hp]; simp; omega)
        go_wp2_with (go_at_call 77; refine (Rregular_any _ _).mono ?_; rintro e w' ⟨rfl, rfl⟩)
        go_round
        case rel => exact ⟨j + 1, by omega, by go_num, HT⟩
        case measure => simp [intOf]; omega
    · obtain rfl : j = s.size := by omega
      have HT := Lib.hid (show k + Lx.tw Lx.reg (s.data.toList.drop k) = s.size by rw [← HE.out, rdrop_end s s.size (Nat.le_refl _), Lx.tw]; rfl)
      go_wp2
      go_ret
      exact ⟨ret_int (by have := HT.out; omega), rfl⟩

end Go.Proofs.Ytoakbcjdkohoiaa
