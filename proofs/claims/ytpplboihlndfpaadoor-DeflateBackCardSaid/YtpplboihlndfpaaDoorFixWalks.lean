/-
  What package fix's reckoning functions answer: Sane, checked, magnitude, rounded.
-/
import Derived.Test.YtpplboihlndfpaaDoorKept
import Derived.Test.YtpplboihlndfpaaDoorFixMath
import Derived.WalkKit
import Derived.WalkSpells
import Derived.WalkLawsBesides
import Derived.BigQuiet
import Derived.Deep.QuietTactic
import Derived.Lib.Hide
namespace Go.Proofs.YtpplboihlndfpaaDoor
open Go.RowKit

theorem ret_int {k : IntKind} {a b : Int} (h : a = b) : Ending.returned (.int k a) = .returned (.int k b) := by rw [h]
theorem ret_bool {a b : Bool} (h : a = b) : Ending.returned (.bool a) = .returned (.bool b) := by rw [h]
theorem ret_ints {a b c d : Int} (h : a = b) (h' : c = d) : Ending.returned (.tuple #[.int .i64 a, .int .i64 c]) = .returned (.tuple #[.int .i64 b, .int .i64 d]) := by rw [h, h']

set_option maxHeartbeats 400000 in
/-- Sane, at numbers that lie in memory one behind the other. -/
theorem sane_any (zs : List Int) (b : Nat) (w : World) (hl : zs.length ≤ 9223372036854775807) (hc : ∀ i, i < zs.length → w.cell? ⟨b, i, none⟩ = some (.int .i64 (zs.getD i 0))) :
    Calls Tryd.prog 89 #[.slice (some ⟨b, 0, none⟩) zs.length zs.length] w fun e w' => e = .returned (.bool (zs.all Fx.saneB)) ∧ w = w' := by
  have HC := Lib.hid hc
  clear hc
  go_enter Tryd.func89, Tryd.ntmps89
  go_wp2
  go_loop [7] (fun i => ∃ k : Nat, k ≤ zs.length ∧ i = .int .i64 k ∧ Hid ((zs.take k).all Fx.saneB = true)) (fun i => zs.length - (intOf i).toNat)
  case atStart => exact ⟨0, Nat.zero_le _, rfl, Lib.hid rfl⟩
  case round =>
    obtain ⟨k, hk, rfl, hs⟩ := hrel
    by_cases hlt : k < zs.length
    · have hcell := HC.out k hlt
      have HE := Lib.hid (show zs.take (k + 1) = zs.take k ++ [zs.getD k 0] by
        rw [List.take_succ_eq_append_getElem hlt, Fx.getD_at _ _ hlt])
      have HM := Lib.hid (show zs.getD k 0 ∈ zs by rw [Fx.getD_at _ _ hlt]; exact List.getElem_mem hlt)
      generalize zs.getD k 0 = x at *
      by_cases h1 : x < -2147483648
      · go_wp2
        go_ret
        refine ⟨ret_bool ?_, rfl⟩
        symm
        rw [List.all_eq_false]
        exact ⟨x, HM.out, by rw [Fx.sane_iff]; omega⟩
      · by_cases h2 : 2147483648 < x
        · go_wp2
          go_ret
          refine ⟨ret_bool ?_, rfl⟩
          symm
          rw [List.all_eq_false]
          exact ⟨x, HM.out, by rw [Fx.sane_iff]; omega⟩
        · go_wp2
          go_round
          case rel => exact ⟨k + 1, by omega, by go_num, Lib.hid (by rw [HE.out, List.all_append, hs.out]; simp [Fx.sane_iff]; omega)⟩
          case measure => simp [intOf]; omega
    · go_wp2
      go_ret
      refine ⟨ret_bool ?_, rfl⟩
      have := hs.out
      rw [List.take_of_length_le (by omega)] at this
      exact this.symm

theorem sane_1 (x : Int) (b : Nat) (w : World) (hc : w.cell? ⟨b, 0, none⟩ = some (.int .i64 x)) :
    Calls Tryd.prog 89 #[.slice (some ⟨b, 0, none⟩) 1 1] w fun e w' => e = .returned (.bool (Fx.saneB x)) ∧ w = w' := by
  have h := sane_any [x] b w (by simp) (by intro i hi; obtain rfl : i = 0 := by simpa using hi
                                           exact hc)
  simpa using h
theorem sane_2 (x y : Int) (b : Nat) (w : World) (hc : w.cell? ⟨b, 0, none⟩ = some (.int .i64 x)) (hd : w.cell? ⟨b, 1, none⟩ = some (.int .i64 y)) :
    Calls Tryd.prog 89 #[.slice (some ⟨b, 0, none⟩) 2 2] w fun e w' => e = .returned (.bool (Fx.saneB x && Fx.saneB y)) ∧ w = w' := by
  have h := sane_any [x, y] b w (by simp) (by
    intro i hi
    have : i = 0 ∨ i = 1 := by simp at hi; omega
    rcases this with rfl | rfl
    · exact hc
    · exact hd)
  simpa using h

theorem sane_new1 (x : Int) (w : World) :
    Calls Tryd.prog 89 #[.slice (some ⟨w.heap.size, 0, none⟩) 1 1] (w.alloc (.cells #[.int .i64 x] 22)) fun e w' => e = .returned (.bool (Fx.saneB x)) ∧ w.alloc (.cells #[.int .i64 x] 22) = w' :=
  sane_1 x _ _ (by simp [go_sem])
theorem sane_new2 (x y : Int) (w : World) :
    Calls Tryd.prog 89 #[.slice (some ⟨w.heap.size, 0, none⟩) 2 2] (w.alloc (.cells #[.int .i64 x, .int .i64 y] 22)) fun e w' => e = .returned (.bool (Fx.saneB x && Fx.saneB y)) ∧ w.alloc (.cells #[.int .i64 x, .int .i64 y] 22) = w' :=
  sane_2 x y _ _ (by simp [go_sem]) (by simp [go_sem])

end Go.Proofs.YtpplboihlndfpaaDoor
