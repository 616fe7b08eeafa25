/-
  What the document's own answers of layer 2 (the reference) are: Unit, Norm, Size, Meet.
-/
import Derived.Test.YtbckjejflbfjlaaGeomRefCalc
import Derived.Test.YtbckjejflbfjlaaGeomRectMath
import Derived.Test.YtbckjejflbfjlaaBlk
namespace Go.Proofs.Ytbckjejflbfjlaa
open Go.RowKit
attribute [local go_sem ↓] run_least run_greatest

set_option maxHeartbeats 400000 in
theorem RUnit_any (w : World) :
    Calls Try.prog 20 #[] w fun e w' => e = .returned (.agg #[.int .i64 1000, .int .i64 0, .int .i64 0, .int .i64 1000, .int .i64 0, .int .i64 0]) ∧ Kept w w' := by
  go_enter Try.func20, Try.ntmps20
  go_wp2
  exact bodyPost_ret (v := .agg #[.int .i64 1000, .int .i64 0, .int .i64 0, .int .i64 1000, .int .i64 0, .int .i64 0]) (by simp [results, Try.results20, go_sem]) rfl ⟨rfl, (Kept.refl _).alloc _ _⟩

set_option maxHeartbeats 400000 in
theorem RNorm_any (a b c d : Int) (w : World) :
    Calls Try.prog 28 #[.agg #[.int .i64 a, .int .i64 b, .int .i64 c, .int .i64 d]] w fun e w' => e = .returned (.agg #[.int .i64 (min a c), .int .i64 (min b d), .int .i64 (max a c), .int .i64 (max b d)]) ∧ (w.alloc (.cells #[.int .i64 a, .int .i64 b, .int .i64 c, .int .i64 d] 26)).alloc (.cells #[.int .i64 (min a c), .int .i64 (min b d), .int .i64 (max a c), .int .i64 (max b d)] 26) = w' := by
  go_enter Try.func28, Try.ntmps28
  go_wp2
  exact bodyPost_ret (v := .agg #[.int .i64 (min a c), .int .i64 (min b d), .int .i64 (max a c), .int .i64 (max b d)]) (by simp [results, Try.results28, go_sem]) rfl ⟨rfl, rfl⟩
theorem RNorm_kept (a b c d : Int) (w : World) :
    Calls Try.prog 28 #[.agg #[.int .i64 a, .int .i64 b, .int .i64 c, .int .i64 d]] w fun e w' => e = .returned (.agg #[.int .i64 (min a c), .int .i64 (min b d), .int .i64 (max a c), .int .i64 (max b d)]) ∧ Kept w w' :=
  (RNorm_any a b c d w).mono fun _ _ ⟨he, hw⟩ => ⟨he, hw ▸ ((Kept.refl _).alloc _ _).alloc _ _⟩

set_option maxHeartbeats 2000000 in
theorem RSize_ok (a b c d : Int) (w : World) (h : Gm.sizE (min a c) (min b d) (max a c) (max b d) = 0) :
    Calls Try.prog 22 #[.agg #[.int .i64 a, .int .i64 b, .int .i64 c, .int .i64 d]] w fun e w' => e = .returned (.tuple #[.int .i64 (Gm.sizW (min a c) (min b d) (max a c) (max b d)), .int .i64 (Gm.sizH (min a c) (min b d) (max a c) (max b d)), .int .i64 (Gm.sizE (min a c) (min b d) (max a c) (max b d))]) ∧ Kept w w' := by
  have H := Lib.hid (show Gm.sizW (min a c) (min b d) (max a c) (max b d) = Fx.subV (max a c) (min a c) ∧ Gm.sizH (min a c) (min b d) (max a c) (max b d) = Fx.subV (max b d) (min b d) ∧ Gm.sizE (min a c) (min b d) (max a c) (max b d) = 0 from ⟨if_pos h, if_pos h, h⟩)
  have HS := Lib.hid (show Gm.fst (Gm.fst 0 (Fx.subE (max a c) (min a c))) (Fx.subE (max b d) (min b d)) = Gm.sizE (min a c) (min b d) (max a c) (max b d) by unfold Gm.sizE; rw [Gm.fst_zero])
  have t0 : (Gm.fst (Gm.fst 0 (Fx.subE (max a c) (min a c))) (Fx.subE (max b d) (min b d)) != 0) = false := by rw [HS.out]; exact ne_no h
  have z1 := Gm.zif_sub (max a c) (min a c)
  have z2 := Gm.zif_sub (max b d) (min b d)
  clear h
  go_enter Try.func22, Try.ntmps22
  go_wp2_with fail
  refine (RNorm_any a b c d _).mono ?_
  rintro e w1 ⟨rfl, rfl⟩
  go_wp2_with fail
  refine (RSub_any _ _ _).mono ?_
  rintro e w1 ⟨rfl, rfl⟩
  go_wp2_with fail
  refine (take_any _ 0 _ _ _ (by simp [go_sem]) (by simp [go_sem])).mono ?_
  rintro e w1 ⟨rfl, rfl⟩
  go_wp2_with fail
  refine (RSub_any _ _ _).mono ?_
  rintro e w1 ⟨rfl, rfl⟩
  go_wp2_with fail
  refine (take_any _ (Gm.fst 0 (Fx.subE (max a c) (min a c))) _ _ _ (by simp [go_sem]) (by simp [go_sem])).mono ?_
  rintro e w1 ⟨rfl, rfl⟩
  go_wp2_with fail
  go_ret3
  exact ⟨ret_ints3 (H.out.1).symm (H.out.2.1).symm H.out.2.2.symm, (((((Kept.refl w).allocO _).allocO _).allocO _).allocO _).allocO _⟩

set_option maxHeartbeats 2000000 in
theorem RSize_err (a b c d : Int) (w : World) (h : ¬ Gm.sizE (min a c) (min b d) (max a c) (max b d) = 0) :
    Calls Try.prog 22 #[.agg #[.int .i64 a, .int .i64 b, .int .i64 c, .int .i64 d]] w fun e w' => e = .returned (.tuple #[.int .i64 (Gm.sizW (min a c) (min b d) (max a c) (max b d)), .int .i64 (Gm.sizH (min a c) (min b d) (max a c) (max b d)), .int .i64 (Gm.sizE (min a c) (min b d) (max a c) (max b d))]) ∧ Kept w w' := by
  have H := Lib.hid (show Gm.sizW (min a c) (min b d) (max a c) (max b d) = 0 ∧ Gm.sizH (min a c) (min b d) (max a c) (max b d) = 0 ∧ Gm.sizE (min a c) (min b d) (max a c) (max b d) = Gm.sizE (min a c) (min b d) (max a c) (max b d) from ⟨if_neg h, if_neg h, rfl⟩)
  have HS := Lib.hid (show Gm.fst (Gm.fst 0 (Fx.subE (max a c) (min a c))) (Fx.subE (max b d) (min b d)) = Gm.sizE (min a c) (min b d) (max a c) (max b d) by unfold Gm.sizE; rw [Gm.fst_zero])
  have t0 : (Gm.fst (Gm.fst 0 (Fx.subE (max a c) (min a c))) (Fx.subE (max b d) (min b d)) != 0) = true := by rw [HS.out]; exact ne_yes h
  have z1 := Gm.zif_sub (max a c) (min a c)
  have z2 := Gm.zif_sub (max b d) (min b d)
  clear h
  go_enter Try.func22, Try.ntmps22
  go_wp2_with fail
  refine (RNorm_any a b c d _).mono ?_
  rintro e w1 ⟨rfl, rfl⟩
  go_wp2_with fail
  refine (RSub_any _ _ _).mono ?_
  rintro e w1 ⟨rfl, rfl⟩
  go_wp2_with fail
  refine (take_any _ 0 _ _ _ (by simp [go_sem]) (by simp [go_sem])).mono ?_
  rintro e w1 ⟨rfl, rfl⟩
  go_wp2_with fail
  refine (RSub_any _ _ _).mono ?_
  rintro e w1 ⟨rfl, rfl⟩
  go_wp2_with fail
  refine (take_any _ (Gm.fst 0 (Fx.subE (max a c) (min a c))) _ _ _ (by simp [go_sem]) (by simp [go_sem])).mono ?_
  rintro e w1 ⟨rfl, rfl⟩
  go_wp2_with fail
  go_quiet (fail)
  go_wp2_with fail
  go_ret3
  exact ⟨ret_ints3 (H.out.1).symm (H.out.2.1).symm HS.out, ((((((Kept.refl w).allocO _).allocO _).allocO _).allocO _).allocO _).drewN _⟩

theorem RSize_any (a b c d : Int) (w : World) :
    Calls Try.prog 22 #[.agg #[.int .i64 a, .int .i64 b, .int .i64 c, .int .i64 d]] w fun e w' => e = .returned (.tuple #[.int .i64 (Gm.sizW (min a c) (min b d) (max a c) (max b d)), .int .i64 (Gm.sizH (min a c) (min b d) (max a c) (max b d)), .int .i64 (Gm.sizE (min a c) (min b d) (max a c) (max b d))]) ∧ Kept w w' := by
  by_cases h : Gm.sizE (min a c) (min b d) (max a c) (max b d) = 0
  · exact RSize_ok a b c d w h
  · exact RSize_err a b c d w h

set_option maxHeartbeats 2000000 in
theorem RMeet_yes (a b c d p q r s : Int) (w : World) (h : Gm.insB (max (min a c) (min p r)) (max (min b d) (min q s)) (min (max a c) (max p r)) (min (max b d) (max q s)) = true) :
    Calls Try.prog 24 #[.agg #[.int .i64 a, .int .i64 b, .int .i64 c, .int .i64 d], .agg #[.int .i64 p, .int .i64 q, .int .i64 r, .int .i64 s]] w fun e w' => e = .returned (.tuple #[.agg #[.int .i64 (max (min a c) (min p r)), .int .i64 (max (min b d) (min q s)), .int .i64 (min (max a c) (max p r)), .int .i64 (min (max b d) (max q s))], .bool true]) ∧ Kept w w' := by
  obtain ⟨h1, h2⟩ := Gm.ins_iff.1 h
  clear h
  go_enter Try.func24, Try.ntmps24
  go_wp2_with fail
  refine (RNorm_any a b c d _).mono ?_
  rintro e w1 ⟨rfl, rfl⟩
  go_wp2_with fail
  refine (RNorm_any p q r s _).mono ?_
  rintro e w1 ⟨rfl, rfl⟩
  go_wp2_with fail
  refine bodyPost_ret (v := .tuple #[.agg #[.int .i64 (max (min a c) (min p r)), .int .i64 (max (min b d) (min q s)), .int .i64 (min (max a c) (max p r)), .int .i64 (min (max b d) (max q s))], .bool true]) ?_ rfl ⟨rfl, ?_⟩
  · simp [results, Try.results24, go_sem]
  · exact (((((((((Kept.refl w).allocO _).allocO _).allocO _).allocO _).allocO _).allocO _).allocO _).allocO _).allocO _ |>.allocO _

set_option maxHeartbeats 2000000 in
theorem RMeet_noX (a b c d p q r s : Int) (w : World) (h : (min (max a c) (max p r)) ≤ (max (min a c) (min p r))) :
    Calls Try.prog 24 #[.agg #[.int .i64 a, .int .i64 b, .int .i64 c, .int .i64 d], .agg #[.int .i64 p, .int .i64 q, .int .i64 r, .int .i64 s]] w fun e w' => e = .returned (.tuple #[.agg #[.int .i64 0, .int .i64 0, .int .i64 0, .int .i64 0], .bool false]) ∧ Kept w w' := by
  go_enter Try.func24, Try.ntmps24
  go_wp2_with fail
  refine (RNorm_any a b c d _).mono ?_
  rintro e w1 ⟨rfl, rfl⟩
  go_wp2_with fail
  refine (RNorm_any p q r s _).mono ?_
  rintro e w1 ⟨rfl, rfl⟩
  go_wp2_with fail
  refine bodyPost_ret (v := .tuple #[.agg #[.int .i64 0, .int .i64 0, .int .i64 0, .int .i64 0], .bool false]) ?_ rfl ⟨rfl, ?_⟩
  · simp [results, Try.results24, go_sem]
  · exact (((((((((Kept.refl w).allocO _).allocO _).allocO _).allocO _).allocO _).allocO _).allocO _).allocO _).allocO _ |>.allocO _

set_option maxHeartbeats 2000000 in
theorem RMeet_noY (a b c d p q r s : Int) (w : World) (h0 : (max (min a c) (min p r)) < (min (max a c) (max p r))) (h : (min (max b d) (max q s)) ≤ (max (min b d) (min q s))) :
    Calls Try.prog 24 #[.agg #[.int .i64 a, .int .i64 b, .int .i64 c, .int .i64 d], .agg #[.int .i64 p, .int .i64 q, .int .i64 r, .int .i64 s]] w fun e w' => e = .returned (.tuple #[.agg #[.int .i64 0, .int .i64 0, .int .i64 0, .int .i64 0], .bool false]) ∧ Kept w w' := by
  go_enter Try.func24, Try.ntmps24
  go_wp2_with fail
  refine (RNorm_any a b c d _).mono ?_
  rintro e w1 ⟨rfl, rfl⟩
  go_wp2_with fail
  refine (RNorm_any p q r s _).mono ?_
  rintro e w1 ⟨rfl, rfl⟩
  go_wp2_with fail
  refine bodyPost_ret (v := .tuple #[.agg #[.int .i64 0, .int .i64 0, .int .i64 0, .int .i64 0], .bool false]) ?_ rfl ⟨rfl, ?_⟩
  · simp [results, Try.results24, go_sem]
  · exact (((((((((Kept.refl w).allocO _).allocO _).allocO _).allocO _).allocO _).allocO _).allocO _).allocO _).allocO _ |>.allocO _

theorem RMeet_any (a b c d p q r s : Int) (w : World) :
    Calls Try.prog 24 #[.agg #[.int .i64 a, .int .i64 b, .int .i64 c, .int .i64 d], .agg #[.int .i64 p, .int .i64 q, .int .i64 r, .int .i64 s]] w fun e w' => e = .returned (.tuple #[.agg #[.int .i64 (Gm.yif (Gm.insB (max (min a c) (min p r)) (max (min b d) (min q s)) (min (max a c) (max p r)) (min (max b d) (max q s))) (max (min a c) (min p r))), .int .i64 (Gm.yif (Gm.insB (max (min a c) (min p r)) (max (min b d) (min q s)) (min (max a c) (max p r)) (min (max b d) (max q s))) (max (min b d) (min q s))), .int .i64 (Gm.yif (Gm.insB (max (min a c) (min p r)) (max (min b d) (min q s)) (min (max a c) (max p r)) (min (max b d) (max q s))) (min (max a c) (max p r))), .int .i64 (Gm.yif (Gm.insB (max (min a c) (min p r)) (max (min b d) (min q s)) (min (max a c) (max p r)) (min (max b d) (max q s))) (min (max b d) (max q s)))], .bool (Gm.insB (max (min a c) (min p r)) (max (min b d) (min q s)) (min (max a c) (max p r)) (min (max b d) (max q s)))]) ∧ Kept w w' := by
  cases h : Gm.insB (max (min a c) (min p r)) (max (min b d) (min q s)) (min (max a c) (max p r)) (min (max b d) (max q s))
  · simp only [Gm.yif_no rfl]
    by_cases k : (min (max a c) (max p r)) ≤ (max (min a c) (min p r))
    · exact RMeet_noX a b c d p q r s w k
    · refine RMeet_noY a b c d p q r s w (by omega) ?_
      rcases Gm.ins_not h with q | q
      · exact absurd q k
      · exact q
  · simp only [Gm.yif_ok rfl]
    exact RMeet_yes a b c d p q r s w h

end Go.Proofs.Ytbckjejflbfjlaa
