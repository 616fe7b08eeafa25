/-
  The walk of the law GeomUnit, whatever it is given.
-/
import Derived.Test.YtbckjejflbfjlaaGeomUnitWalk
namespace Go.Proofs.Ytbckjejflbfjlaa
open Go.RowKit

set_option maxHeartbeats 2000000 in
set_option maxRecDepth 100000 in
theorem GeomUnit_e0 (m0 m1 m2 m3 m4 m5 a b c d : Int) (w : World) (hm : Hid (¬ (Fx.saneB m0 = true ∧ Fx.saneB m1 = true ∧ Fx.saneB m2 = true ∧ Fx.saneB m3 = true ∧ Fx.saneB m4 = true ∧ Fx.saneB m5 = true))) :
    Calls Try.prog 5 #[.agg #[.int .i64 m0, .int .i64 m1, .int .i64 m2, .int .i64 m3, .int .i64 m4, .int .i64 m5], .agg #[.int .i64 a, .int .i64 b, .int .i64 c, .int .i64 d]] w fun e w' => e = .returned (.bool true) ∧ Kept w w' := by
  go_enter Try.func5, Try.ntmps5
  go_wp2_with fail
  refine (awake2_any _).mono ?_
  rintro e w1 ⟨rfl, k1⟩
  have HX1 := Lib.hid (In.kept (In.fresh' (k := w.heap.size + 1) (In.fresh (In.start w) #[.int .i64 m0, .int .i64 m1, .int .i64 m2, .int .i64 m3, .int .i64 m4, .int .i64 m5] 24) #[.int .i64 a, .int .i64 b, .int .i64 c, .int .i64 d] 26 (by simp)) k1)
  clear k1
  obtain ⟨r0, r1, r2, r3⟩ := (HX1.out.mem (List.mem_cons_self)).cells4
  obtain ⟨q0, q1, q2, q3, q4, q5⟩ := (HX1.out.mem (List.mem_cons_of_mem _ (List.mem_cons_self))).cells6
  go_wp2_with fail
  refine (lsane_no m0 m1 m2 m3 m4 m5 _ hm.out).mono ?_
  rintro e wx ⟨rfl, k2⟩
  have HX := Lib.hid (HX1.out.kept k2)
  clear k2 r0 r1 r2 r3 q0 q1 q2 q3 q4 q5 HX1
  obtain ⟨r0, r1, r2, r3⟩ := (HX.out.mem (List.mem_cons_self)).cells4
  go_wp2_with (go_at_call 30; refine (RMay_any _ _).mono ?_; rintro e w' ⟨rfl, rfl⟩)
  go_ret
  exact ⟨rfl, HX.out.1⟩

set_option maxHeartbeats 2000000 in
set_option maxRecDepth 100000 in
theorem GeomUnit_e1 (m0 m1 m2 m3 m4 m5 a b c d : Int) (w : World) (s0 : Fx.saneB m0 = true) (s1 : Fx.saneB m1 = true) (s2 : Fx.saneB m2 = true) (s3 : Fx.saneB m3 = true) (s4 : Fx.saneB m4 = true) (s5 : Fx.saneB m5 = true)  (ra : Fx.saneB a = false) :
    Calls Try.prog 5 #[.agg #[.int .i64 m0, .int .i64 m1, .int .i64 m2, .int .i64 m3, .int .i64 m4, .int .i64 m5], .agg #[.int .i64 a, .int .i64 b, .int .i64 c, .int .i64 d]] w fun e w' => e = .returned (.bool true) ∧ Kept w w' := by
  go_enter Try.func5, Try.ntmps5
  go_wp2_with fail
  refine (awake2_any _).mono ?_
  rintro e w1 ⟨rfl, k1⟩
  have HX1 := Lib.hid (In.kept (In.fresh' (k := w.heap.size + 1) (In.fresh (In.start w) #[.int .i64 m0, .int .i64 m1, .int .i64 m2, .int .i64 m3, .int .i64 m4, .int .i64 m5] 24) #[.int .i64 a, .int .i64 b, .int .i64 c, .int .i64 d] 26 (by simp)) k1)
  clear k1
  obtain ⟨r0, r1, r2, r3⟩ := (HX1.out.mem (List.mem_cons_self)).cells4
  obtain ⟨q0, q1, q2, q3, q4, q5⟩ := (HX1.out.mem (List.mem_cons_of_mem _ (List.mem_cons_self))).cells6
  go_wp2_with fail
  refine (lsane_6 m0 m1 m2 m3 m4 m5 _ s0 s1 s2 s3 s4 s5).mono ?_
  rintro e wx ⟨rfl, k2⟩
  have HX := Lib.hid (HX1.out.kept k2)
  clear k2 r0 r1 r2 r3 q0 q1 q2 q3 q4 q5 HX1
  obtain ⟨r0, r1, r2, r3⟩ := (HX.out.mem (List.mem_cons_self)).cells4
  go_wp2_with (go_at_call 30; refine (RMay_any _ _).mono ?_; rintro e w' ⟨rfl, rfl⟩)
  go_ret
  exact ⟨rfl, HX.out.1⟩

set_option maxHeartbeats 2000000 in
set_option maxRecDepth 100000 in
theorem GeomUnit_e2 (m0 m1 m2 m3 m4 m5 a b c d : Int) (w : World) (s0 : Fx.saneB m0 = true) (s1 : Fx.saneB m1 = true) (s2 : Fx.saneB m2 = true) (s3 : Fx.saneB m3 = true) (s4 : Fx.saneB m4 = true) (s5 : Fx.saneB m5 = true) (ra : Fx.saneB a = true) (rb : Fx.saneB b = false) :
    Calls Try.prog 5 #[.agg #[.int .i64 m0, .int .i64 m1, .int .i64 m2, .int .i64 m3, .int .i64 m4, .int .i64 m5], .agg #[.int .i64 a, .int .i64 b, .int .i64 c, .int .i64 d]] w fun e w' => e = .returned (.bool true) ∧ Kept w w' := by
  go_enter Try.func5, Try.ntmps5
  go_wp2_with fail
  refine (awake2_any _).mono ?_
  rintro e w1 ⟨rfl, k1⟩
  have HX1 := Lib.hid (In.kept (In.fresh' (k := w.heap.size + 1) (In.fresh (In.start w) #[.int .i64 m0, .int .i64 m1, .int .i64 m2, .int .i64 m3, .int .i64 m4, .int .i64 m5] 24) #[.int .i64 a, .int .i64 b, .int .i64 c, .int .i64 d] 26 (by simp)) k1)
  clear k1
  obtain ⟨r0, r1, r2, r3⟩ := (HX1.out.mem (List.mem_cons_self)).cells4
  obtain ⟨q0, q1, q2, q3, q4, q5⟩ := (HX1.out.mem (List.mem_cons_of_mem _ (List.mem_cons_self))).cells6
  go_wp2_with fail
  refine (lsane_6 m0 m1 m2 m3 m4 m5 _ s0 s1 s2 s3 s4 s5).mono ?_
  rintro e wx ⟨rfl, k2⟩
  have HX := Lib.hid (HX1.out.kept k2)
  clear k2 r0 r1 r2 r3 q0 q1 q2 q3 q4 q5 HX1
  obtain ⟨r0, r1, r2, r3⟩ := (HX.out.mem (List.mem_cons_self)).cells4
  go_wp2_with (go_at_call 30; refine (RMay_any _ _).mono ?_; rintro e w' ⟨rfl, rfl⟩)
  go_ret
  exact ⟨rfl, HX.out.1⟩

set_option maxHeartbeats 2000000 in
set_option maxRecDepth 100000 in
theorem GeomUnit_e3 (m0 m1 m2 m3 m4 m5 a b c d : Int) (w : World) (s0 : Fx.saneB m0 = true) (s1 : Fx.saneB m1 = true) (s2 : Fx.saneB m2 = true) (s3 : Fx.saneB m3 = true) (s4 : Fx.saneB m4 = true) (s5 : Fx.saneB m5 = true) (ra : Fx.saneB a = true) (rb : Fx.saneB b = true) (rc : Fx.saneB c = false) :
    Calls Try.prog 5 #[.agg #[.int .i64 m0, .int .i64 m1, .int .i64 m2, .int .i64 m3, .int .i64 m4, .int .i64 m5], .agg #[.int .i64 a, .int .i64 b, .int .i64 c, .int .i64 d]] w fun e w' => e = .returned (.bool true) ∧ Kept w w' := by
  go_enter Try.func5, Try.ntmps5
  go_wp2_with fail
  refine (awake2_any _).mono ?_
  rintro e w1 ⟨rfl, k1⟩
  have HX1 := Lib.hid (In.kept (In.fresh' (k := w.heap.size + 1) (In.fresh (In.start w) #[.int .i64 m0, .int .i64 m1, .int .i64 m2, .int .i64 m3, .int .i64 m4, .int .i64 m5] 24) #[.int .i64 a, .int .i64 b, .int .i64 c, .int .i64 d] 26 (by simp)) k1)
  clear k1
  obtain ⟨r0, r1, r2, r3⟩ := (HX1.out.mem (List.mem_cons_self)).cells4
  obtain ⟨q0, q1, q2, q3, q4, q5⟩ := (HX1.out.mem (List.mem_cons_of_mem _ (List.mem_cons_self))).cells6
  go_wp2_with fail
  refine (lsane_6 m0 m1 m2 m3 m4 m5 _ s0 s1 s2 s3 s4 s5).mono ?_
  rintro e wx ⟨rfl, k2⟩
  have HX := Lib.hid (HX1.out.kept k2)
  clear k2 r0 r1 r2 r3 q0 q1 q2 q3 q4 q5 HX1
  obtain ⟨r0, r1, r2, r3⟩ := (HX.out.mem (List.mem_cons_self)).cells4
  go_wp2_with (go_at_call 30; refine (RMay_any _ _).mono ?_; rintro e w' ⟨rfl, rfl⟩)
  go_ret
  exact ⟨rfl, HX.out.1⟩

set_option maxHeartbeats 2000000 in
set_option maxRecDepth 100000 in
theorem GeomUnit_e4 (m0 m1 m2 m3 m4 m5 a b c d : Int) (w : World) (s0 : Fx.saneB m0 = true) (s1 : Fx.saneB m1 = true) (s2 : Fx.saneB m2 = true) (s3 : Fx.saneB m3 = true) (s4 : Fx.saneB m4 = true) (s5 : Fx.saneB m5 = true) (ra : Fx.saneB a = true) (rb : Fx.saneB b = true) (rc : Fx.saneB c = true) (rd : Fx.saneB d = false) :
    Calls Try.prog 5 #[.agg #[.int .i64 m0, .int .i64 m1, .int .i64 m2, .int .i64 m3, .int .i64 m4, .int .i64 m5], .agg #[.int .i64 a, .int .i64 b, .int .i64 c, .int .i64 d]] w fun e w' => e = .returned (.bool true) ∧ Kept w w' := by
  go_enter Try.func5, Try.ntmps5
  go_wp2_with fail
  refine (awake2_any _).mono ?_
  rintro e w1 ⟨rfl, k1⟩
  have HX1 := Lib.hid (In.kept (In.fresh' (k := w.heap.size + 1) (In.fresh (In.start w) #[.int .i64 m0, .int .i64 m1, .int .i64 m2, .int .i64 m3, .int .i64 m4, .int .i64 m5] 24) #[.int .i64 a, .int .i64 b, .int .i64 c, .int .i64 d] 26 (by simp)) k1)
  clear k1
  obtain ⟨r0, r1, r2, r3⟩ := (HX1.out.mem (List.mem_cons_self)).cells4
  obtain ⟨q0, q1, q2, q3, q4, q5⟩ := (HX1.out.mem (List.mem_cons_of_mem _ (List.mem_cons_self))).cells6
  go_wp2_with fail
  refine (lsane_6 m0 m1 m2 m3 m4 m5 _ s0 s1 s2 s3 s4 s5).mono ?_
  rintro e wx ⟨rfl, k2⟩
  have HX := Lib.hid (HX1.out.kept k2)
  clear k2 r0 r1 r2 r3 q0 q1 q2 q3 q4 q5 HX1
  obtain ⟨r0, r1, r2, r3⟩ := (HX.out.mem (List.mem_cons_self)).cells4
  go_wp2_with (go_at_call 30; refine (RMay_any _ _).mono ?_; rintro e w' ⟨rfl, rfl⟩)
  go_ret
  exact ⟨rfl, HX.out.1⟩

theorem GeomUnit_walk (m0 m1 m2 m3 m4 m5 a b c d : Int) (w : World) :
    Calls Try.prog 5 #[.agg #[.int .i64 m0, .int .i64 m1, .int .i64 m2, .int .i64 m3, .int .i64 m4, .int .i64 m5], .agg #[.int .i64 a, .int .i64 b, .int .i64 c, .int .i64 d]] w fun e w' => e = .returned (.bool true) ∧ Kept w w' := by
  by_cases hm : (Fx.saneB m0 = true ∧ Fx.saneB m1 = true ∧ Fx.saneB m2 = true ∧ Fx.saneB m3 = true ∧ Fx.saneB m4 = true ∧ Fx.saneB m5 = true)
  · obtain ⟨s0, s1, s2, s3, s4, s5⟩ := hm
    cases ra : Fx.saneB a
    · exact GeomUnit_e1 m0 m1 m2 m3 m4 m5 a b c d w s0 s1 s2 s3 s4 s5 ra
    cases rb : Fx.saneB b
    · exact GeomUnit_e2 m0 m1 m2 m3 m4 m5 a b c d w s0 s1 s2 s3 s4 s5 ra rb
    cases rc : Fx.saneB c
    · exact GeomUnit_e3 m0 m1 m2 m3 m4 m5 a b c d w s0 s1 s2 s3 s4 s5 ra rb rc
    cases rd : Fx.saneB d
    · exact GeomUnit_e4 m0 m1 m2 m3 m4 m5 a b c d w s0 s1 s2 s3 s4 s5 ra rb rc rd
    exact GeomUnit_main m0 m1 m2 m3 m4 m5 a b c d w s0 s1 s2 s3 s4 s5 ra rb rc rd
  · exact GeomUnit_e0 m0 m1 m2 m3 m4 m5 a b c d w (Lib.hid hm)

end Go.Proofs.Ytbckjejflbfjlaa
