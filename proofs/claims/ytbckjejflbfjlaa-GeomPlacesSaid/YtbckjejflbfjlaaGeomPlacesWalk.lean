/-
  The walk of the law GeomPlaces.
-/
import Derived.Test.YtbckjejflbfjlaaGeomAwake
import Derived.Test.YtbckjejflbfjlaaGeomShiftsWalk
import Derived.Test.YtbckjejflbfjlaaGeomPlacesMath
import Derived.Test.YtbckjejflbfjlaaGeomEqRect
import Derived.Deep.DeepCutAuto
import Derived.Deep.RegionHeld3
namespace Go.Proofs.Ytbckjejflbfjlaa
open Go.RowKit

theorem and_8 (n : Int) : bits .and .i64 n 255 = n % 256 := by
  have hc : (BitVec.ofInt 64 255).toNat = 2 ^ 8 - 1 := by decide
  have hk : (BitVec.ofInt 64 n &&& BitVec.ofInt 64 255).toNat = (n % ((2 ^ 64 : Nat) : Int)).toNat % 2 ^ 8 := by
    rw [BitVec.toNat_and, BitVec.toNat_ofInt, hc, Nat.and_two_pow_sub_one_eq_mod]
  show IntKind.i64.wrap ((BitVec.ofInt 64 n &&& BitVec.ofInt 64 255).toNat : Nat) = n % 256
  rw [hk, IntKind.wrap_i64]
  omega

theorem and_4 (n : Int) : bits .and .i64 n 15 = n % 16 := by
  have hc : (BitVec.ofInt 64 15).toNat = 2 ^ 4 - 1 := by decide
  have hk : (BitVec.ofInt 64 n &&& BitVec.ofInt 64 15).toNat = (n % ((2 ^ 64 : Nat) : Int)).toNat % 2 ^ 4 := by
    rw [BitVec.toNat_and, BitVec.toNat_ofInt, hc, Nat.and_two_pow_sub_one_eq_mod]
  show IntKind.i64.wrap ((BitVec.ofInt 64 n &&& BitVec.ofInt 64 15).toNat : Nat) = n % 16
  rw [hk, IntKind.wrap_i64]
  omega
theorem prod_box {p r : Int} (p0 : 0 ≤ p) (p1 : p ≤ 255) (r0 : 0 ≤ r) (r1 : r ≤ 15) : 1 ≤ 1000 * (1 + p) * (1 + r) ∧ 1000 * (1 + p) * (1 + r) ≤ 4096000 := by
  have h1 := Int.mul_le_mul (a := 1000 * (1 + p)) (b := 1 + r) (c := 256000) (d := 16) (by omega) (by omega) (by omega) (by omega)
  have h2 := Int.mul_le_mul (a := 1) (b := 1) (c := 1000 * (1 + p)) (d := 1 + r) (by omega) (by omega) (by omega) (by omega)
  omega

theorem Place_box (p q r s x y : Int) (w : World) (p0 : 0 ≤ p) (p1 : p ≤ 255) (q0 : 0 ≤ q) (q1 : q ≤ 255) (r0 : 0 ≤ r) (r1 : r ≤ 15) (s0 : 0 ≤ s) (s1 : s ≤ 15) (x0 : 0 ≤ x) (x1 : x ≤ 1048575) (y0 : 0 ≤ y) (y1 : y ≤ 1048575) :
    Calls Try.prog 17 #[.agg #[.int .i64 0, .int .i64 0, .int .i64 (1000 * (1 + p)), .int .i64 (1000 * (1 + q))], .agg #[.int .i64 1000, .int .i64 0, .int .i64 0, .int .i64 1000, .int .i64 0, .int .i64 0], .agg #[.int .i64 x, .int .i64 y, .int .i64 (x + (1000 * (1 + p) * (1 + r))), .int .i64 (y + (1000 * (1 + q) * (1 + s)))]] w fun e w' => e = .returned (.tuple #[.agg #[.int .i64 (1000 * (1 + r)), .int .i64 0, .int .i64 0, .int .i64 (1000 * (1 + s)), .int .i64 x, .int .i64 y], .int .i64 0]) ∧ Kept w w' := by
  obtain ⟨u0, u1⟩ := prod_box p0 p1 r0 r1
  obtain ⟨v0, v1⟩ := prod_box q0 q1 s0 s1
  have h := Place_any 0 0 (1000 * (1 + p)) (1000 * (1 + q)) 1000 0 0 1000 0 0 x y (x + (1000 * (1 + p) * (1 + r))) (y + (1000 * (1 + q) * (1 + s))) w
  have ha := Gm.sane_of (a := (1000 * (1 + p))) (by omega) (by omega)
  have hb := Gm.sane_of (a := (1000 * (1 + q))) (by omega) (by omega)
  have B1 := Gm.bnd_diag (s := 1000) (t := 1000) (e := 0) (f := 0) (Gm.mul_r1 Gm.sane_0) (Gm.mul_r1 ha) (Gm.mul_r1 Gm.sane_0) (Gm.mul_r1 hb) ha hb ha hb Gm.sane_0 Gm.sane_0 (by rw [Int.add_zero]; exact ha) (by rw [Int.add_zero]; exact hb) (by omega) (by omega)
  rw [Int.add_zero, Int.add_zero] at B1
  have P1 := Gm.pl_diag (a := (1000 * (1 + p))) (b := (1000 * (1 + q))) (k := 1 + r) (l := 1 + s) (x := x) (y := y) (by omega) (by omega) (by omega) (by omega) (by omega) (by omega) (by omega) (by omega) x0 x1 y0 y1 u0 u1 v0 v1
  rw [(Gm.ord (a := 0) (b := (1000 * (1 + p))) (by omega)).1, (Gm.ord (a := 0) (b := (1000 * (1 + p))) (by omega)).2, (Gm.ord (a := 0) (b := (1000 * (1 + q))) (by omega)).1, (Gm.ord (a := 0) (b := (1000 * (1 + q))) (by omega)).2, B1.1, B1.2.1, B1.2.2.1, B1.2.2.2.1, B1.2.2.2.2, P1.1, P1.2.1, P1.2.2.1, P1.2.2.2.1, P1.2.2.2.2] at h
  exact h
theorem Bounds_box (p q r s x y : Int) (w : World) (p0 : 0 ≤ p) (p1 : p ≤ 255) (q0 : 0 ≤ q) (q1 : q ≤ 255) (r0 : 0 ≤ r) (r1 : r ≤ 15) (s0 : 0 ≤ s) (s1 : s ≤ 15) (x0 : 0 ≤ x) (x1 : x ≤ 1048575) (y0 : 0 ≤ y) (y1 : y ≤ 1048575) :
    Calls Try.prog 15 #[.agg #[.int .i64 (1000 * (1 + r)), .int .i64 0, .int .i64 0, .int .i64 (1000 * (1 + s)), .int .i64 x, .int .i64 y], .agg #[.int .i64 0, .int .i64 0, .int .i64 (1000 * (1 + p)), .int .i64 (1000 * (1 + q))]] w fun e w' => e = .returned (.tuple #[.agg #[.int .i64 x, .int .i64 y, .int .i64 (x + (1000 * (1 + p) * (1 + r))), .int .i64 (y + (1000 * (1 + q) * (1 + s)))], .int .i64 0]) ∧ Kept w w' := by
  obtain ⟨u0, u1⟩ := prod_box p0 p1 r0 r1
  obtain ⟨v0, v1⟩ := prod_box q0 q1 s0 s1
  have h := Bounds_any (1000 * (1 + r)) 0 0 (1000 * (1 + s)) x y 0 0 (1000 * (1 + p)) (1000 * (1 + q)) w
  have ha := Gm.sane_of (a := (1000 * (1 + p))) (by omega) (by omega)
  have hb := Gm.sane_of (a := (1000 * (1 + q))) (by omega) (by omega)
  have hu := Gm.sane_of (a := (1000 * (1 + p) * (1 + r))) (by omega) (by omega)
  have hv := Gm.sane_of (a := (1000 * (1 + q) * (1 + s))) (by omega) (by omega)
  have hr := Gm.sane_of (a := (1000 * (1 + r))) (by omega) (by omega)
  have hs := Gm.sane_of (a := (1000 * (1 + s))) (by omega) (by omega)
  have B1 := Gm.bnd_diag (e := x) (f := y) (Gm.mul_l0 hr) (Gm.mul_scale ha hr hu) (Gm.mul_l0 hs) (Gm.mul_scale hb hs hv) ha hb hu hv (Gm.sane_of (by omega) (by omega)) (Gm.sane_of (by omega) (by omega)) (Gm.sane_of (by omega) (by omega)) (Gm.sane_of (by omega) (by omega)) (by omega) (by omega)
  rw [Int.add_comm _ x, Int.add_comm _ y] at B1
  rw [(Gm.ord (a := 0) (b := (1000 * (1 + p))) (by omega)).1, (Gm.ord (a := 0) (b := (1000 * (1 + p))) (by omega)).2, (Gm.ord (a := 0) (b := (1000 * (1 + q))) (by omega)).1, (Gm.ord (a := 0) (b := (1000 * (1 + q))) (by omega)).2, B1.1, B1.2.1, B1.2.2.1, B1.2.2.2.1, B1.2.2.2.2] at h
  exact h

theorem placesS {p q r s x y : Int} {b : Nat} {w' : World} (h1 : Blk w' b #[.int .i64 x, .int .i64 y, .int .i64 (x + (1000 * (1 + p) * (1 + r))), .int .i64 (y + (1000 * (1 + q) * (1 + s)))] 26) (h2 : Blk w' (b + 1) #[.int .i64 0, .int .i64 0, .int .i64 (1000 * (1 + p)), .int .i64 (1000 * (1 + q))] 26) :
    w'.cell? ⟨b, 0, none⟩ = some (.int .i64 x) ∧ w'.cell? ⟨b, 1, none⟩ = some (.int .i64 y) ∧ w'.cell? ⟨b, 2, none⟩ = some (.int .i64 (x + (1000 * (1 + p) * (1 + r)))) ∧ w'.cell? ⟨b, 3, none⟩ = some (.int .i64 (y + (1000 * (1 + q) * (1 + s)))) ∧ w'.cell? ⟨b + 1, 0, none⟩ = some (.int .i64 0) ∧ w'.cell? ⟨b + 1, 1, none⟩ = some (.int .i64 0) ∧ w'.cell? ⟨b + 1, 2, none⟩ = some (.int .i64 (1000 * (1 + p))) ∧ w'.cell? ⟨b + 1, 3, none⟩ = some (.int .i64 (1000 * (1 + q))) :=
  ⟨h1.cells4.1, h1.cells4.2.1, h1.cells4.2.2.1, h1.cells4.2.2.2, h2.cells4.1, h2.cells4.2.1, h2.cells4.2.2.1, h2.cells4.2.2.2⟩
theorem Blk.other6 {w : World} {b : Nat} {cs : Array Value} {t : TypeId} (h : Blk w b cs t) {k : Nat} (n : b ≠ k) (v0 v1 v2 v3 v4 v5 : Value) :
    Blk ((((((w.setCell ⟨k, 0, none⟩ v0).setCell ⟨k, 1, none⟩ v1).setCell ⟨k, 2, none⟩ v2).setCell ⟨k, 3, none⟩ v3).setCell ⟨k, 4, none⟩ v4).setCell ⟨k, 5, none⟩ v5) b cs t :=
  (((((h.other n v0).other n v1).other n v2).other n v3).other n v4).other n v5
theorem Blk.set6 {w : World} {b : Nat} {u0 u1 u2 u3 u4 u5 : Value} {t : TypeId} (h : Blk w b #[u0, u1, u2, u3, u4, u5] t) (v0 v1 v2 v3 v4 v5 : Value) :
    Blk ((((((w.setCell ⟨b, 0, none⟩ v0).setCell ⟨b, 1, none⟩ v1).setCell ⟨b, 2, none⟩ v2).setCell ⟨b, 3, none⟩ v3).setCell ⟨b, 4, none⟩ v4).setCell ⟨b, 5, none⟩ v5) b #[v0, v1, v2, v3, v4, v5] t := by
  have := (((((h.set 0 v0).set 1 v1).set 2 v2).set 3 v3).set 4 v4).set 5 v5
  simpa using this

/-- What the statement with Place leaves. -/
def PlacesAt (p q r s x y : Int) (w w1 : World) (g : Value) (e : Value) (wx : World) : Prop :=
  ∃ b : Nat, g = .pointer (some ⟨b, 0, none⟩) ∧ e = .int .i64 0 ∧ Blk wx b #[.int .i64 (1000 * (1 + r)), .int .i64 0, .int .i64 0, .int .i64 (1000 * (1 + s)), .int .i64 x, .int .i64 y] 24 ∧ Blk wx w1.heap.size #[.int .i64 x, .int .i64 y, .int .i64 (x + (1000 * (1 + p) * (1 + r))), .int .i64 (y + (1000 * (1 + q) * (1 + s)))] 26 ∧ Blk wx (w1.heap.size + 1) #[.int .i64 0, .int .i64 0, .int .i64 (1000 * (1 + p)), .int .i64 (1000 * (1 + q))] 26 ∧ Kept w wx

set_option linter.unusedSimpArgs false in
set_option maxHeartbeats 4000000 in
theorem GeomPlaces_walk (a b c d e f : Int) (w : World) :
    Calls Try.prog 7 #[.int .i64 a, .int .i64 b, .int .i64 c, .int .i64 d, .int .i64 e, .int .i64 f] w fun e w' => e = .returned (.bool true) ∧ Kept w w' := by
  have ra := and_8 a
  have rb := and_8 b
  have rc := and_4 c
  have rd := and_4 d
  have re := and_20 e
  have rf := and_20 f
  obtain ⟨p0, p1⟩ : 0 ≤ a % 256 ∧ a % 256 ≤ 255 := by omega
  obtain ⟨q0, q1⟩ : 0 ≤ b % 256 ∧ b % 256 ≤ 255 := by omega
  obtain ⟨r0, r1⟩ : 0 ≤ c % 16 ∧ c % 16 ≤ 15 := by omega
  obtain ⟨s0, s1⟩ : 0 ≤ d % 16 ∧ d % 16 ≤ 15 := by omega
  obtain ⟨x0, x1⟩ : 0 ≤ e % 1048576 ∧ e % 1048576 ≤ 1048575 := by omega
  obtain ⟨y0, y1⟩ : 0 ≤ f % 1048576 ∧ f % 1048576 ≤ 1048575 := by omega
  generalize a % 256 = p at *
  generalize b % 256 = q at *
  generalize c % 16 = r at *
  generalize d % 16 = s at *
  generalize e % 1048576 = x at *
  generalize f % 1048576 = y at *
  obtain ⟨u0, u1⟩ := prod_box p0 p1 r0 r1
  obtain ⟨v0, v1⟩ := prod_box q0 q1 s0 s1
  go_enter Try.func7, Try.ntmps7
  go_wp2_with fail
  refine (awake2_any _).mono ?_
  rintro e w1 ⟨rfl, k1⟩
  have zk := Below.size k1
  go_upto_region 10 with fail
  go_cut [20, 21] (fun g e wx => PlacesAt p q r s x y w w1 g e wx)
  case first =>
    go_region_held3 (fun w' => w'.cell? ⟨w1.heap.size, 0, none⟩ = some (.int .i64 x) ∧ w'.cell? ⟨w1.heap.size, 1, none⟩ = some (.int .i64 y) ∧ w'.cell? ⟨w1.heap.size, 2, none⟩ = some (.int .i64 (x + (1000 * (1 + p) * (1 + r)))) ∧ w'.cell? ⟨w1.heap.size, 3, none⟩ = some (.int .i64 (y + (1000 * (1 + q) * (1 + s)))) ∧ w'.cell? ⟨w1.heap.size + 1, 0, none⟩ = some (.int .i64 0) ∧ w'.cell? ⟨w1.heap.size + 1, 1, none⟩ = some (.int .i64 0) ∧ w'.cell? ⟨w1.heap.size + 1, 2, none⟩ = some (.int .i64 (1000 * (1 + p))) ∧ w'.cell? ⟨w1.heap.size + 1, 3, none⟩ = some (.int .i64 (1000 * (1 + q)))) (first | with_reducible exact placesS (Blk.drew (Blk.alloc (Blk.fresh w1 #[.int .i64 x, .int .i64 y, .int .i64 (x + (1000 * (1 + p) * (1 + r))), .int .i64 (y + (1000 * (1 + q) * (1 + s)))] 26) _)) (Blk.drew (Blk.fresh' (b := w1.heap.size + 1) #[.int .i64 0, .int .i64 0, .int .i64 (1000 * (1 + p)), .int .i64 (1000 * (1 + q))] 26 (by simp))) | with_reducible exact placesS (Blk.drew (Blk.alloc (Blk.alloc (Blk.fresh w1 #[.int .i64 x, .int .i64 y, .int .i64 (x + (1000 * (1 + p) * (1 + r))), .int .i64 (y + (1000 * (1 + q) * (1 + s)))] 26) _) _)) (Blk.drew (Blk.alloc (Blk.fresh' (b := w1.heap.size + 1) #[.int .i64 0, .int .i64 0, .int .i64 (1000 * (1 + p)), .int .i64 (1000 * (1 + q))] 26 (by simp)) _)) | with_reducible exact placesS HT2.out HB2.out | with_reducible exact placesS (HT2.out.alloc _) (HB2.out.alloc _) | with_reducible exact placesS HT3.out HB3.out | with_reducible exact placesS (HT3.out.alloc _) (HB3.out.alloc _) | with_reducible exact placesS (HT3.out.other6 (by omega) _ _ _ _ _ _) (HB3.out.other6 (by omega) _ _ _ _ _ _))
      (first
        | (go_at_call 19; refine (Unit_any _).mono ?_; rintro e w2 ⟨rfl, k2⟩; have z2 := Below.size k2; simp at z2; (first | ((with_reducible have HT2 := Lib.hid (Blk.kept (Blk.drew (Blk.alloc (Blk.alloc (Blk.fresh w1 #[.int .i64 x, .int .i64 y, .int .i64 (x + (1000 * (1 + p) * (1 + r))), .int .i64 (y + (1000 * (1 + q) * (1 + s)))] 26) _) _)) k2)); (with_reducible have HB2 := Lib.hid (Blk.kept (Blk.drew (Blk.alloc (Blk.fresh' (b := w1.heap.size + 1) #[.int .i64 0, .int .i64 0, .int .i64 (1000 * (1 + p)), .int .i64 (1000 * (1 + q))] 26 (by simp)) _)) k2)); (with_reducible have HA := Lib.hid (Blk.kept (Blk.drew (Blk.fresh' (b := w1.heap.size + 1 + 1) #[.int .i64 0, .int .i64 0, .int .i64 0, .int .i64 0, .int .i64 0, .int .i64 0] 24 (by simp))) k2))) | ((with_reducible have HT2 := Lib.hid (Blk.kept (Blk.drew (Blk.alloc (Blk.fresh w1 #[.int .i64 x, .int .i64 y, .int .i64 (x + (1000 * (1 + p) * (1 + r))), .int .i64 (y + (1000 * (1 + q) * (1 + s)))] 26) _)) k2)); (with_reducible have HB2 := Lib.hid (Blk.kept (Blk.drew (Blk.fresh' (b := w1.heap.size + 1) #[.int .i64 0, .int .i64 0, .int .i64 (1000 * (1 + p)), .int .i64 (1000 * (1 + q))] 26 (by simp))) k2)))))
        | (go_at_call 17; refine (Place_box p q r s x y _ p0 p1 q0 q1 r0 r1 s0 s1 x0 x1 y0 y1).mono ?_; rintro e w3 ⟨rfl, k3⟩; (first
            | ((with_reducible have HM3 := Lib.hid (Blk.kept (Blk.fresh w2 #[.int .i64 0, .int .i64 0, .int .i64 0, .int .i64 0, .int .i64 0, .int .i64 0] 24) k3)); (with_reducible have HT3 := Lib.hid ((HT2.out.alloc _).kept k3)); (with_reducible have HB3 := Lib.hid ((HB2.out.alloc _).kept k3)); obtain ⟨m0, m1, m2, m3, m4, m5⟩ := HM3.out.cells6; have mf := HM3.out.free)
            | ((with_reducible have HM3 := Lib.hid (HA.out.kept k3)); (with_reducible have HT3 := Lib.hid (HT2.out.kept k3)); (with_reducible have HB3 := Lib.hid (HB2.out.kept k3)); obtain ⟨m0, m1, m2, m3, m4, m5⟩ := HM3.out.cells6; have mf := HM3.out.free)
            | ((with_reducible have HT3 := Lib.hid (HT2.out.kept k3)); (with_reducible have HB3 := Lib.hid (HB2.out.kept k3))))))
    all_goals
      go_wp2_with fail
      go_meet
    · exact ⟨_, rfl, rfl, Blk.fresh w3 _ _, HT3.out.alloc _, HB3.out.alloc _, (((k1.trans (((Kept.refl w1).allocO _).allocO _).drew).trans k2).trans k3).allocO _⟩
    · exact ⟨_, rfl, rfl, HM3.out.set6 _ _ _ _ _ _, HT3.out.other6 (by omega) _ _ _ _ _ _, HB3.out.other6 (by omega) _ _ _ _ _ _, ((((k1.trans (((Kept.refl w1).allocO _).allocO _).drew).trans k2).allocO _).trans k3).set6 (by omega) _ _ _ _ _ _⟩
    · exact ⟨_, rfl, rfl, HM3.out.set6 _ _ _ _ _ _, HT3.out.other6 (by omega) _ _ _ _ _ _, HB3.out.other6 (by omega) _ _ _ _ _ _, (((k1.trans ((((Kept.refl w1).allocO _).allocO _).allocO _).drew).trans k2).trans k3).set6 (by omega) _ _ _ _ _ _⟩
  case rest =>
    obtain ⟨g, rfl, rfl, hm, ht, hb, hk⟩ := hcut
    have HM := Lib.hid hm
    have HT := Lib.hid ht
    have HB := Lib.hid hb
    have HK := Lib.hid hk
    clear hm ht hb hk k1
    obtain ⟨m0, m1, m2, m3, m4, m5⟩ := HM.out.cells6
    obtain ⟨b0, b1, b2, b3⟩ := HB.out.cells4
    have er := eql_rect_same x y (x + (1000 * (1 + p) * (1 + r))) (y + (1000 * (1 + q) * (1 + s)))
    go_wp2_with fail
    refine (Bounds_box p q r s x y _ p0 p1 q0 q1 r0 r1 s0 s1 x0 x1 y0 y1).mono ?_
    rintro e w4 ⟨rfl, k4⟩
    clear m0 m1 m2 m3 m4 m5 b0 b1 b2 b3
    have HT4 := Lib.hid (HT.out.kept k4)
    obtain ⟨t0, t1, t2, t3⟩ := HT4.out.cells4
    have tz := HT4.out.lt
    go_wp2_with fail
    go_ret
    exact ⟨rfl, (HK.out.trans k4).allocO _⟩

end Go.Proofs.Ytbckjejflbfjlaa
