/-
  What the laws' own sane answers: may all numbers of a matrix be?
-/
import Derived.Test.YtbckjejflbfjlaaFixRef
import Derived.LoopN
namespace Go.Proofs.Ytbckjejflbfjlaa
open Go.RowKit

set_option maxHeartbeats 1000000 in
theorem lsane_0 (m0 m1 m2 m3 m4 m5 : Int) (w : World)  (h0 : Fx.saneB m0 = false) :
    Calls Try.prog 29 #[.agg #[.int .i64 m0, .int .i64 m1, .int .i64 m2, .int .i64 m3, .int .i64 m4, .int .i64 m5]] w fun e w' => e = .returned (.bool false) ∧ Kept w w' := by
  go_enter Try.func29, Try.ntmps29
  go_wp2_with fail
  refine wp_loop_rounds 7 ?_
  rw [rounds_succ]
  go_wp2_with (go_at_call 30; refine (RMay_any _ _).mono ?_; rintro e w' ⟨rfl, rfl⟩)
  go_ret
  exact ⟨rfl, (Kept.refl w).alloc _ _⟩

set_option maxHeartbeats 1000000 in
theorem lsane_1 (m0 m1 m2 m3 m4 m5 : Int) (w : World) (h0 : Fx.saneB m0 = true) (h1 : Fx.saneB m1 = false) :
    Calls Try.prog 29 #[.agg #[.int .i64 m0, .int .i64 m1, .int .i64 m2, .int .i64 m3, .int .i64 m4, .int .i64 m5]] w fun e w' => e = .returned (.bool false) ∧ Kept w w' := by
  go_enter Try.func29, Try.ntmps29
  go_wp2_with fail
  refine wp_loop_rounds 7 ?_
  rw [rounds_succ]
  go_wp2_with (go_at_call 30; refine (RMay_any _ _).mono ?_; rintro e w' ⟨rfl, rfl⟩)
  rw [rounds_succ]
  go_wp2_with (go_at_call 30; refine (RMay_any _ _).mono ?_; rintro e w' ⟨rfl, rfl⟩)
  go_ret
  exact ⟨rfl, (Kept.refl w).alloc _ _⟩

set_option maxHeartbeats 1000000 in
theorem lsane_2 (m0 m1 m2 m3 m4 m5 : Int) (w : World) (h0 : Fx.saneB m0 = true) (h1 : Fx.saneB m1 = true) (h2 : Fx.saneB m2 = false) :
    Calls Try.prog 29 #[.agg #[.int .i64 m0, .int .i64 m1, .int .i64 m2, .int .i64 m3, .int .i64 m4, .int .i64 m5]] w fun e w' => e = .returned (.bool false) ∧ Kept w w' := by
  go_enter Try.func29, Try.ntmps29
  go_wp2_with fail
  refine wp_loop_rounds 7 ?_
  rw [rounds_succ]
  go_wp2_with (go_at_call 30; refine (RMay_any _ _).mono ?_; rintro e w' ⟨rfl, rfl⟩)
  rw [rounds_succ]
  go_wp2_with (go_at_call 30; refine (RMay_any _ _).mono ?_; rintro e w' ⟨rfl, rfl⟩)
  rw [rounds_succ]
  go_wp2_with (go_at_call 30; refine (RMay_any _ _).mono ?_; rintro e w' ⟨rfl, rfl⟩)
  go_ret
  exact ⟨rfl, (Kept.refl w).alloc _ _⟩

set_option maxHeartbeats 1000000 in
theorem lsane_3 (m0 m1 m2 m3 m4 m5 : Int) (w : World) (h0 : Fx.saneB m0 = true) (h1 : Fx.saneB m1 = true) (h2 : Fx.saneB m2 = true) (h3 : Fx.saneB m3 = false) :
    Calls Try.prog 29 #[.agg #[.int .i64 m0, .int .i64 m1, .int .i64 m2, .int .i64 m3, .int .i64 m4, .int .i64 m5]] w fun e w' => e = .returned (.bool false) ∧ Kept w w' := by
  go_enter Try.func29, Try.ntmps29
  go_wp2_with fail
  refine wp_loop_rounds 7 ?_
  rw [rounds_succ]
  go_wp2_with (go_at_call 30; refine (RMay_any _ _).mono ?_; rintro e w' ⟨rfl, rfl⟩)
  rw [rounds_succ]
  go_wp2_with (go_at_call 30; refine (RMay_any _ _).mono ?_; rintro e w' ⟨rfl, rfl⟩)
  rw [rounds_succ]
  go_wp2_with (go_at_call 30; refine (RMay_any _ _).mono ?_; rintro e w' ⟨rfl, rfl⟩)
  rw [rounds_succ]
  go_wp2_with (go_at_call 30; refine (RMay_any _ _).mono ?_; rintro e w' ⟨rfl, rfl⟩)
  go_ret
  exact ⟨rfl, (Kept.refl w).alloc _ _⟩

set_option maxHeartbeats 1000000 in
theorem lsane_4 (m0 m1 m2 m3 m4 m5 : Int) (w : World) (h0 : Fx.saneB m0 = true) (h1 : Fx.saneB m1 = true) (h2 : Fx.saneB m2 = true) (h3 : Fx.saneB m3 = true) (h4 : Fx.saneB m4 = false) :
    Calls Try.prog 29 #[.agg #[.int .i64 m0, .int .i64 m1, .int .i64 m2, .int .i64 m3, .int .i64 m4, .int .i64 m5]] w fun e w' => e = .returned (.bool false) ∧ Kept w w' := by
  go_enter Try.func29, Try.ntmps29
  go_wp2_with fail
  refine wp_loop_rounds 7 ?_
  rw [rounds_succ]
  go_wp2_with (go_at_call 30; refine (RMay_any _ _).mono ?_; rintro e w' ⟨rfl, rfl⟩)
  rw [rounds_succ]
  go_wp2_with (go_at_call 30; refine (RMay_any _ _).mono ?_; rintro e w' ⟨rfl, rfl⟩)
  rw [rounds_succ]
  go_wp2_with (go_at_call 30; refine (RMay_any _ _).mono ?_; rintro e w' ⟨rfl, rfl⟩)
  rw [rounds_succ]
  go_wp2_with (go_at_call 30; refine (RMay_any _ _).mono ?_; rintro e w' ⟨rfl, rfl⟩)
  rw [rounds_succ]
  go_wp2_with (go_at_call 30; refine (RMay_any _ _).mono ?_; rintro e w' ⟨rfl, rfl⟩)
  go_ret
  exact ⟨rfl, (Kept.refl w).alloc _ _⟩

set_option maxHeartbeats 1000000 in
theorem lsane_5 (m0 m1 m2 m3 m4 m5 : Int) (w : World) (h0 : Fx.saneB m0 = true) (h1 : Fx.saneB m1 = true) (h2 : Fx.saneB m2 = true) (h3 : Fx.saneB m3 = true) (h4 : Fx.saneB m4 = true) (h5 : Fx.saneB m5 = false) :
    Calls Try.prog 29 #[.agg #[.int .i64 m0, .int .i64 m1, .int .i64 m2, .int .i64 m3, .int .i64 m4, .int .i64 m5]] w fun e w' => e = .returned (.bool false) ∧ Kept w w' := by
  go_enter Try.func29, Try.ntmps29
  go_wp2_with fail
  refine wp_loop_rounds 7 ?_
  rw [rounds_succ]
  go_wp2_with (go_at_call 30; refine (RMay_any _ _).mono ?_; rintro e w' ⟨rfl, rfl⟩)
  rw [rounds_succ]
  go_wp2_with (go_at_call 30; refine (RMay_any _ _).mono ?_; rintro e w' ⟨rfl, rfl⟩)
  rw [rounds_succ]
  go_wp2_with (go_at_call 30; refine (RMay_any _ _).mono ?_; rintro e w' ⟨rfl, rfl⟩)
  rw [rounds_succ]
  go_wp2_with (go_at_call 30; refine (RMay_any _ _).mono ?_; rintro e w' ⟨rfl, rfl⟩)
  rw [rounds_succ]
  go_wp2_with (go_at_call 30; refine (RMay_any _ _).mono ?_; rintro e w' ⟨rfl, rfl⟩)
  rw [rounds_succ]
  go_wp2_with (go_at_call 30; refine (RMay_any _ _).mono ?_; rintro e w' ⟨rfl, rfl⟩)
  go_ret
  exact ⟨rfl, (Kept.refl w).alloc _ _⟩

set_option maxHeartbeats 1000000 in
theorem lsane_6 (m0 m1 m2 m3 m4 m5 : Int) (w : World) (h0 : Fx.saneB m0 = true) (h1 : Fx.saneB m1 = true) (h2 : Fx.saneB m2 = true) (h3 : Fx.saneB m3 = true) (h4 : Fx.saneB m4 = true) (h5 : Fx.saneB m5 = true) :
    Calls Try.prog 29 #[.agg #[.int .i64 m0, .int .i64 m1, .int .i64 m2, .int .i64 m3, .int .i64 m4, .int .i64 m5]] w fun e w' => e = .returned (.bool true) ∧ Kept w w' := by
  go_enter Try.func29, Try.ntmps29
  go_wp2_with fail
  refine wp_loop_rounds 7 ?_
  rw [rounds_succ]
  go_wp2_with (go_at_call 30; refine (RMay_any _ _).mono ?_; rintro e w' ⟨rfl, rfl⟩)
  rw [rounds_succ]
  go_wp2_with (go_at_call 30; refine (RMay_any _ _).mono ?_; rintro e w' ⟨rfl, rfl⟩)
  rw [rounds_succ]
  go_wp2_with (go_at_call 30; refine (RMay_any _ _).mono ?_; rintro e w' ⟨rfl, rfl⟩)
  rw [rounds_succ]
  go_wp2_with (go_at_call 30; refine (RMay_any _ _).mono ?_; rintro e w' ⟨rfl, rfl⟩)
  rw [rounds_succ]
  go_wp2_with (go_at_call 30; refine (RMay_any _ _).mono ?_; rintro e w' ⟨rfl, rfl⟩)
  rw [rounds_succ]
  go_wp2_with (go_at_call 30; refine (RMay_any _ _).mono ?_; rintro e w' ⟨rfl, rfl⟩)
  rw [rounds_succ]
  go_wp2_with fail
  go_ret
  exact ⟨rfl, (Kept.refl w).alloc _ _⟩

theorem lsane_no (m0 m1 m2 m3 m4 m5 : Int) (w : World) (h : ¬ (Fx.saneB m0 = true ∧ Fx.saneB m1 = true ∧ Fx.saneB m2 = true ∧ Fx.saneB m3 = true ∧ Fx.saneB m4 = true ∧ Fx.saneB m5 = true)) :
    Calls Try.prog 29 #[.agg #[.int .i64 m0, .int .i64 m1, .int .i64 m2, .int .i64 m3, .int .i64 m4, .int .i64 m5]] w fun e w' => e = .returned (.bool false) ∧ Kept w w' := by
  cases h0 : Fx.saneB m0
  · exact lsane_0 m0 m1 m2 m3 m4 m5 w h0
  cases h1 : Fx.saneB m1
  · exact lsane_1 m0 m1 m2 m3 m4 m5 w h0 h1
  cases h2 : Fx.saneB m2
  · exact lsane_2 m0 m1 m2 m3 m4 m5 w h0 h1 h2
  cases h3 : Fx.saneB m3
  · exact lsane_3 m0 m1 m2 m3 m4 m5 w h0 h1 h2 h3
  cases h4 : Fx.saneB m4
  · exact lsane_4 m0 m1 m2 m3 m4 m5 w h0 h1 h2 h3 h4
  cases h5 : Fx.saneB m5
  · exact lsane_5 m0 m1 m2 m3 m4 m5 w h0 h1 h2 h3 h4 h5
  exact absurd ⟨h0, h1, h2, h3, h4, h5⟩ h

end Go.Proofs.Ytbckjejflbfjlaa
