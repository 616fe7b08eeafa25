/-
  The walk of the law GeomShifts.
-/
import Derived.Test.YtbckjejflbfjlaaGeomAwake
import Derived.Test.YtbckjejflbfjlaaGeomMul
import Derived.Test.YtbckjejflbfjlaaGeomLawMath
namespace Go.Proofs.Ytbckjejflbfjlaa
open Go.RowKit

theorem and_20 (n : Int) : bits .and .i64 n 1048575 = n % 1048576 := by
  have hc : (BitVec.ofInt 64 1048575).toNat = 2 ^ 20 - 1 := by decide
  have hk : (BitVec.ofInt 64 n &&& BitVec.ofInt 64 1048575).toNat = (n % ((2 ^ 64 : Nat) : Int)).toNat % 2 ^ 20 := by
    rw [BitVec.toNat_and, BitVec.toNat_ofInt, hc, Nat.and_two_pow_sub_one_eq_mod]
  show IntKind.i64.wrap ((BitVec.ofInt 64 n &&& BitVec.ofInt 64 1048575).toNat : Nat) = n % 1048576
  rw [hk, IntKind.wrap_i64]
  omega

theorem Mul_shift (x y z u : Int) (w : World) (x0 : 0 ≤ x) (x1 : x ≤ 1048575) (y0 : 0 ≤ y) (y1 : y ≤ 1048575) (z0 : 0 ≤ z) (z1 : z ≤ 1048575) (u0 : 0 ≤ u) (u1 : u ≤ 1048575) :
    Calls Try.prog 11 #[.agg #[.int .i64 1000, .int .i64 0, .int .i64 0, .int .i64 1000, .int .i64 x, .int .i64 y], .agg #[.int .i64 1000, .int .i64 0, .int .i64 0, .int .i64 1000, .int .i64 z, .int .i64 u]] w fun e w' => e = .returned (.tuple #[.agg #[.int .i64 1000, .int .i64 0, .int .i64 0, .int .i64 1000, .int .i64 (x + z), .int .i64 (y + u)], .int .i64 0]) ∧ Kept w w' := by
  have h := GMul_any 1000 0 0 1000 x y 1000 0 0 1000 z u w
  have hx := Gm.sane_of (a := x) (by omega) (by omega)
  have hy := Gm.sane_of (a := y) (by omega) (by omega)
  have hz := Gm.sane_of (a := z) (by omega) (by omega)
  have hu := Gm.sane_of (a := u) (by omega) (by omega)
  have e0 := Gm.two_r0 Gm.sane_1000 Gm.sane_0
  have e1 := Gm.two_r1 Gm.sane_1000 Gm.sane_0
  have e2 := Gm.two_r0 Gm.sane_0 Gm.sane_1000
  have e3 := Gm.two_r1 Gm.sane_0 Gm.sane_1000
  have e4 := Gm.pls_r0 hx hy hz (Gm.sane_of (by omega) (by omega))
  have e5 := Gm.pls_r1 hx hy hu (Gm.sane_of (by omega) (by omega))
  have hm := Gm.mat_ok e0.2 e1.2 e2.2 e3.2 e4.2 e5.2
  rw [hm, e0.1, e1.1, e2.1, e3.1, e4.1, e5.1] at h
  exact h
theorem Apply_shift (e f x y : Int) (w : World) (he : Fx.saneB e = true) (hf : Fx.saneB f = true) (hx : Fx.saneB x = true) (hy : Fx.saneB y = true) (h : Fx.saneB (x + e) = true) (h' : Fx.saneB (y + f) = true) :
    Calls Try.prog 13 #[.agg #[.int .i64 1000, .int .i64 0, .int .i64 0, .int .i64 1000, .int .i64 e, .int .i64 f], .int .i64 x, .int .i64 y] w fun r w' => r = .returned (.tuple #[.int .i64 (x + e), .int .i64 (y + f), .int .i64 0]) ∧ Kept w w' := by
  have k := Apply_any 1000 0 0 1000 e f x y w
  obtain ⟨a, b, c⟩ := Gm.app_shift he hf hx hy h h'
  rw [a, b, c] at k
  exact k

set_option maxHeartbeats 2000000 in
theorem GeomShifts_walk (a b c d : Int) (w : World) :
    Calls Try.prog 8 #[.int .i64 a, .int .i64 b, .int .i64 c, .int .i64 d] w fun e w' => e = .returned (.bool true) ∧ Kept w w' := by
  have ra := and_20 a
  have rb := and_20 b
  have rc := and_20 c
  have rd := and_20 d
  obtain ⟨x0, x1⟩ : 0 ≤ a % 1048576 ∧ a % 1048576 ≤ 1048575 := by omega
  obtain ⟨y0, y1⟩ : 0 ≤ b % 1048576 ∧ b % 1048576 ≤ 1048575 := by omega
  obtain ⟨z0, z1⟩ : 0 ≤ c % 1048576 ∧ c % 1048576 ≤ 1048575 := by omega
  obtain ⟨u0, u1⟩ : 0 ≤ d % 1048576 ∧ d % 1048576 ≤ 1048575 := by omega
  generalize a % 1048576 = x at *
  generalize b % 1048576 = y at *
  generalize c % 1048576 = z at *
  generalize d % 1048576 = u at *
  have em := eql_mat_same 1000 0 0 1000 (x + z) (y + u)
  go_enter Try.func8, Try.ntmps8
  go_wp2_with fail
  refine (awake2_any _).mono ?_
  rintro e w1 ⟨rfl, k1⟩
  go_wp2_with fail
  refine (Mul_shift x y z u _ x0 x1 y0 y1 z0 z1 u0 u1).mono ?_
  rintro e w2 ⟨rfl, k2⟩
  go_wp2_with fail
  refine (Apply_shift (x + z) (y + u) u x _ (Gm.sane_of (by omega) (by omega)) (Gm.sane_of (by omega) (by omega)) (Gm.sane_of (by omega) (by omega)) (Gm.sane_of (by omega) (by omega)) (Gm.sane_of (by omega) (by omega)) (Gm.sane_of (by omega) (by omega))).mono ?_
  rintro e w3 ⟨rfl, k3⟩
  have HM := Lib.hid ((Blk.fresh w2 _ _).kept k3)
  obtain ⟨m0, m1, m2, m3, m4, m5⟩ := HM.out.cells6
  have q1 : (u + (x + z) == u + x + z) = true := by rw [beq_iff_eq]; omega
  have q2 : (x + (y + u) == x + y + u) = true := by rw [beq_iff_eq]; omega
  go_wp2_with fail
  go_ret
  exact ⟨rfl, ((k1.trans k2).allocO _).trans k3⟩

end Go.Proofs.Ytbckjejflbfjlaa
