/-
  The walk of the law FixWhole.
-/
import Derived.Test.YtikkpfaeenekbaaDoorFixAwake
import Derived.Test.YtikkpfaeenekbaaDoorFixSignsMath
import Derived.Test.YtikkpfaeenekbaaDoorFixBackMath
namespace Go.Proofs.YtikkpfaeenekbaaDoor
open Go.RowKit

theorem and_1023 (n : Int) : bits .and .i64 n 1023 = n % 1024 := by
  have hc : (BitVec.ofInt 64 1023).toNat = 2 ^ 10 - 1 := by decide
  have hk : (BitVec.ofInt 64 n &&& BitVec.ofInt 64 1023).toNat = (n % ((2 ^ 64 : Nat) : Int)).toNat % 2 ^ 10 := by
    rw [BitVec.toNat_and, BitVec.toNat_ofInt, hc, Nat.and_two_pow_sub_one_eq_mod]
  show IntKind.i64.wrap ((BitVec.ofInt 64 n &&& BitVec.ofInt 64 1023).toNat : Nat) = n % 1024
  rw [hk, IntKind.wrap_i64]
  omega

theorem Fx.small_sane {x : Int} (h0 : -2147483 ≤ x) (h1 : x ≤ 2147483) : Fx.saneB (1000 * x) = true := by rw [Fx.sane_iff]; omega
theorem Int_small (x : Int) (w : World) (h0 : 0 ≤ x) (h1 : x ≤ 1023) :
    Calls Tryd.prog 13 #[.int .i64 x] w fun e w' => e = .returned (.tuple #[.int .i64 (1000 * x), .int .i64 0]) ∧ Kept w w' := by
  have h := Int_any x w (by omega) (by omega)
  rw [(Fx.int_in (n := x) (by omega)).1, (Fx.int_in (n := x) (by omega)).2, Int.mul_comm] at h
  exact h
theorem Add_small (x y : Int) (w : World) (x0 : 0 ≤ x) (x1 : x ≤ 1023) (y0 : 0 ≤ y) (y1 : y ≤ 1023) :
    Calls Tryd.prog 19 #[.int .i64 (1000 * x), .int .i64 (1000 * y)] w fun e w' => e = .returned (.tuple #[.int .i64 (1000 * (x + y)), .int .i64 0]) ∧ Kept w w' := by
  have h := Add_any (1000 * x) (1000 * y) w
  have hx : Fx.saneB (1000 * x) = true := Fx.small_sane (by omega) (by omega)
  have hy : Fx.saneB (1000 * y) = true := Fx.small_sane (by omega) (by omega)
  have hs : Fx.saneB (1000 * (x + y)) = true := Fx.small_sane (by omega) (by omega)
  have e : 1000 * x + 1000 * y = 1000 * (x + y) := by omega
  have e1 : Fx.addV (1000 * x) (1000 * y) = 1000 * (x + y) := by
    unfold Fx.addV; rw [if_pos ⟨hx, hy⟩, e]; exact (Fx.chk_sane hs).1
  have e2 : Fx.addE (1000 * x) (1000 * y) = 0 := by
    unfold Fx.addE; rw [if_pos ⟨hx, hy⟩, e]; exact (Fx.chk_sane hs).2
  rw [e1, e2] at h
  exact h
theorem Sub_small (x y : Int) (w : World) (x0 : 0 ≤ x) (x1 : x ≤ 1023) (y0 : 0 ≤ y) (y1 : y ≤ 1023) :
    Calls Tryd.prog 21 #[.int .i64 (1000 * x), .int .i64 (1000 * y)] w fun e w' => e = .returned (.tuple #[.int .i64 (1000 * (x - y)), .int .i64 0]) ∧ Kept w w' := by
  have h := Sub_any (1000 * x) (1000 * y) w
  have hx : Fx.saneB (1000 * x) = true := Fx.small_sane (by omega) (by omega)
  have hy : Fx.saneB (1000 * y) = true := Fx.small_sane (by omega) (by omega)
  have hs : Fx.saneB (1000 * (x - y)) = true := Fx.small_sane (by omega) (by omega)
  have e : 1000 * x - 1000 * y = 1000 * (x - y) := by omega
  have e1 : Fx.subV (1000 * x) (1000 * y) = 1000 * (x - y) := by
    unfold Fx.subV; rw [if_pos ⟨hx, hy⟩, e]; exact (Fx.chk_sane hs).1
  have e2 : Fx.subE (1000 * x) (1000 * y) = 0 := by
    unfold Fx.subE; rw [if_pos ⟨hx, hy⟩, e]; exact (Fx.chk_sane hs).2
  rw [e1, e2] at h
  exact h
theorem prod_bd {x y : Int} (x0 : 0 ≤ x) (x1 : x ≤ 1023) (y0 : 0 ≤ y) (y1 : y ≤ 1023) : 0 ≤ x * y ∧ x * y ≤ 1046529 :=
  ⟨Int.mul_nonneg x0 y0, by have := Int.mul_le_mul x1 y1 y0 (by omega); omega⟩
theorem Mul_small (x y : Int) (w : World) (x0 : 0 ≤ x) (x1 : x ≤ 1023) (y0 : 0 ≤ y) (y1 : y ≤ 1023) :
    Calls Tryd.prog 23 #[.int .i64 (1000 * x), .int .i64 (1000 * y)] w fun e w' => e = .returned (.tuple #[.int .i64 (1000 * x * y), .int .i64 0]) ∧ Kept w w' := by
  have h := Mul_any (1000 * x) (1000 * y) w
  have hx : Fx.saneB (1000 * x) = true := Fx.small_sane (by omega) (by omega)
  have hy : Fx.saneB (1000 * y) = true := Fx.small_sane (by omega) (by omega)
  obtain ⟨p0, p1⟩ := prod_bd x0 x1 y0 y1
  have hs : Fx.saneB (1000 * x * y) = true := by
    rw [Int.mul_assoc]; exact Fx.small_sane (by omega) (by omega)
  have e : 1000 * x * (1000 * y) = 1000 * x * y * 1000 := by rw [Int.mul_comm 1000 y, Int.mul_assoc, Int.mul_assoc, Int.mul_assoc]
  have e1 : Fx.mulV (1000 * x) (1000 * y) = 1000 * x * y := by
    unfold Fx.mulV; rw [if_pos ⟨hx, hy⟩, e, Fx.rnd_whole]; exact (Fx.chk_sane hs).1
  have e2 : Fx.mulE (1000 * x) (1000 * y) = 0 := by
    unfold Fx.mulE; rw [if_pos ⟨hx, hy⟩, e, Fx.rnd_whole]; exact (Fx.chk_sane hs).2
  rw [e1, e2] at h
  exact h
theorem Parse_point (x : Int) (w : World) (h0 : 0 ≤ x) (h1 : x ≤ 1023) (hf : Fine w) :
    Calls Tryd.prog 11 #[.string ((⟨(Fx.printL (1000 * x)).toArray⟩ : ByteArray) ++ ⟨#[46, 48]⟩)] w fun e w' => e = .returned (.tuple #[.int .i64 (1000 * x), .int .i64 0]) ∧ Kept w w' := by
  obtain ⟨e1, e2⟩ := Fx.whole_back (x := x) h0 (by omega)
  have hl := (Fx.print_back (Fx.small_sane (x := x) (by omega) (by omega))).2.2
  have k := Parse_any (Fx.printL (1000 * x) ++ [46, 48]) w (by rw [List.length_append]; simp; omega) hf
  rw [e1, e2] at k
  have eb : (⟨(Fx.printL (1000 * x)).toArray⟩ : ByteArray) ++ ⟨#[46, 48]⟩ = ⟨(Fx.printL (1000 * x) ++ [46, 48]).toArray⟩ := bytes_append _ [46, 48]
  rw [eb]
  exact k

set_option maxHeartbeats 1000000 in
theorem FixWhole_walk (a b : Int) (w : World) (hf : Fine w) :
    Calls Tryd.prog 8 #[.int .i64 a, .int .i64 b] w fun e w' => e = .returned (.bool true) ∧ Kept w w' := by
  go_enter Tryd.func8, Tryd.ntmps8
  go_wp2_with fail
  refine (awake_any _ hf).mono ?_
  rintro e w1 ⟨rfl, k1⟩
  go_wp2_with fail
  rw [and_1023, and_1023]
  obtain ⟨x, hx⟩ : ∃ x, a % 1024 = x := ⟨_, rfl⟩
  obtain ⟨y, hy⟩ : ∃ y, b % 1024 = y := ⟨_, rfl⟩
  have x0 : 0 ≤ x := by omega
  have x1 : x ≤ 1023 := by omega
  have y0 : 0 ≤ y := by omega
  have y1 : y ≤ 1023 := by omega
  rw [hx, hy]
  clear hx hy
  obtain ⟨p0, p1⟩ := prod_bd x0 x1 y0 y1
  have hl := (Fx.print_back (Fx.small_sane (x := x) (by omega) (by omega))).2.2
  have q0 : 0 ≤ 1000 * x * y := by rw [Int.mul_assoc]; omega
  have q1 : 1000 * x * y ≤ 1046529000 := by rw [Int.mul_assoc]; omega
  refine (Int_small x _ x0 x1).mono ?_
  rintro e w2 ⟨rfl, k2⟩
  go_wp2_with fail
  refine (Int_small y _ y0 y1).mono ?_
  rintro e w3 ⟨rfl, k3⟩
  go_wp2_with fail
  refine (Add_small x y _ x0 x1 y0 y1).mono ?_
  rintro e w4 ⟨rfl, k4⟩
  go_wp2_with fail
  refine (Sub_small x y _ x0 x1 y0 y1).mono ?_
  rintro e w5 ⟨rfl, k5⟩
  go_wp2_with fail
  refine (Mul_small x y _ x0 x1 y0 y1).mono ?_
  rintro e w6 ⟨rfl, k6⟩
  have K6 := Lib.hid (((((k1.trans k2).trans k3).trans k4).trans k5).trans k6)
  go_wp2_with fail
  refine (Print_any (1000 * x) _ (hf.kept K6.out)).mono ?_
  rintro e w7 ⟨rfl, k7⟩
  go_wp2_with fail
  refine (Parse_point x _ x0 x1 (hf.kept (K6.out.trans k7))).mono ?_
  rintro e w8 ⟨rfl, k8⟩
  go_wp2_with fail
  go_ret
  exact ⟨rfl, (K6.out.trans k7).trans k8⟩

end Go.Proofs.YtikkpfaeenekbaaDoor
