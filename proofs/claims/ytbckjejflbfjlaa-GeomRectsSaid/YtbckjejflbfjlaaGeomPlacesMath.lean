/-
  Plain numbers behind the law GeomPlaces: a box that is brought to a rectangle of sizes that are whole multiples of its own.
-/
import Derived.Test.YtbckjejflbfjlaaGeomLawMath
namespace Go.Proofs.Ytbckjejflbfjlaa.Gm
open Fx

theorem rnd_exact (k d : Int) (hd : d ≠ 0) : rnd (k * d) d = k := by
  have e : (k * d).tmod d = 0 := Int.mul_tmod_left k d
  have q : (k * d).tdiv d = k := Int.mul_tdiv_cancel k hd
  rw [rnd_low (by rw [e]; unfold mag; split <;> split <;> omega), q]
theorem div_exact {a k : Int} (ha : saneB a = true) (h0 : a ≠ 0) (hv : saneB (a * k) = true) (hk : saneB (1000 * k) = true) : divV (a * k) a = 1000 * k ∧ divE (a * k) a = 0 := by
  have e : rnd (a * k * 1000) a = 1000 * k := by rw [show a * k * 1000 = 1000 * k * a by rw [Int.mul_comm (a * k), Int.mul_comm a k, Int.mul_assoc]]; exact rnd_exact _ _ h0
  have q := div_in (a := a * k) (b := a) ⟨hv, ha⟩ h0
  rw [e] at q
  exact ⟨q.1.trans (chk_ok hk).1, q.2.trans (chk_ok hk).2⟩
theorem mul_scale {a k : Int} (ha : saneB a = true) (hk : saneB (1000 * k) = true) (hv : saneB (a * k) = true) : mulV a (1000 * k) = a * k ∧ mulE a (1000 * k) = 0 := by
  have e : rnd (a * (1000 * k)) 1000 = a * k := by rw [show a * (1000 * k) = a * k * 1000 by rw [Int.mul_comm 1000 k, Int.mul_assoc]]; exact rnd_1000 _
  unfold mulV mulE
  rw [if_pos ⟨ha, hk⟩, if_pos ⟨ha, hk⟩, e]
  exact chk_ok hv

theorem app_diag {s t e f x y u v : Int} (hx : mulV x s = u ∧ mulE x s = 0) (hy : mulV y t = v ∧ mulE y t = 0) (sx : saneB x = true) (sy : saneB y = true) (su : saneB u = true) (sv : saneB v = true) (se : saneB e = true) (sf : saneB f = true) (h : saneB (u + e) = true) (h' : saneB (v + f) = true) :
    appX s 0 0 t e f x y = u + e ∧ appY s 0 0 t e f x y = v + f ∧ appE s 0 0 t e f x y = 0 := by
  have a0 := two_of hx (mul_r0 sy) su sane_0 (by rw [Int.add_zero]; exact su)
  have b0 := two_of (mul_r0 sx) hy sane_0 sv (by rw [Int.zero_add]; exact sv)
  rw [Int.add_zero] at a0
  rw [Int.zero_add] at b0
  have a := pls_of a0 su se h
  have b := pls_of b0 sv sf h'
  obtain ⟨p, q, r⟩ := app_3 (m0 := s) (m1 := 0) (m2 := 0) (m3 := t) (m4 := e) (m5 := f) a.2 b.2
  exact ⟨p.trans a.1, q.trans b.1, r⟩

/-- The rectangle around 0 0 a b, each number scaled and moved. -/
theorem bnd_diag {s t e f a b u v : Int} (hx0 : mulV 0 s = 0 ∧ mulE 0 s = 0) (hx : mulV a s = u ∧ mulE a s = 0) (hy0 : mulV 0 t = 0 ∧ mulE 0 t = 0) (hy : mulV b t = v ∧ mulE b t = 0) (sa : saneB a = true) (sb : saneB b = true) (su : saneB u = true) (sv : saneB v = true) (se : saneB e = true) (sf : saneB f = true)
    (h : saneB (u + e) = true) (h' : saneB (v + f) = true) (u0 : 0 ≤ u) (v0 : 0 ≤ v) :
    bndA s 0 0 t e f 0 0 a b = e ∧ bndB s 0 0 t e f 0 0 a b = f ∧ bndC s 0 0 t e f 0 0 a b = u + e ∧ bndD s 0 0 t e f 0 0 a b = v + f ∧ bndE s 0 0 t e f 0 0 a b = 0 := by
  have se' : saneB (0 + e) = true := by rw [Int.zero_add]; exact se
  have sf' : saneB (0 + f) = true := by rw [Int.zero_add]; exact sf
  obtain ⟨x0, y0, e0⟩ := app_diag (e := e) (f := f) hx0 hy0 sane_0 sane_0 sane_0 sane_0 se sf se' sf'
  obtain ⟨x1, y1, e1⟩ := app_diag (e := e) (f := f) hx hy0 sa sane_0 su sane_0 se sf h sf'
  obtain ⟨x2, y2, e2⟩ := app_diag (e := e) (f := f) hx0 hy sane_0 sb sane_0 sv se sf se' h'
  obtain ⟨x3, y3, e3⟩ := app_diag (e := e) (f := f) hx hy sa sb su sv se sf h h'
  obtain ⟨p, q, r, o, z⟩ := bnd_ok (m0 := s) (m1 := 0) (m2 := 0) (m3 := t) (m4 := e) (m5 := f) (p := 0) (q := 0) (r := a) (s := b) ⟨e0, e1, e2, e3⟩
  rw [x0, x1, x2, x3] at p r
  rw [y0, y1, y2, y3] at q o
  refine ⟨p.trans ?_, q.trans ?_, r.trans ?_, o.trans ?_, z⟩ <;> simp only [lo, hi] <;> omega

theorem siz_ok {a b c d : Int} (sa : saneB a = true) (sb : saneB b = true) (sc : saneB c = true) (sd : saneB d = true) (h : saneB (c - a) = true) (h' : saneB (d - b) = true) : sizW a b c d = c - a ∧ sizH a b c d = d - b ∧ sizE a b c d = 0 := by
  have p := sub_ok sc sa h
  have q := sub_ok sd sb h'
  obtain ⟨x, y, z⟩ := siz_3 p.2 q.2
  exact ⟨x.trans p.1, y.trans q.1, z⟩

theorem ord {a b : Int} (h : a ≤ b) : min a b = a ∧ max a b = b := by omega

/-- The matrix that brings 0 0 a b to x y x+ak y+bl. -/
theorem pl_diag {a b k l x y : Int} (a0 : 1 ≤ a) (a1 : a ≤ 256000) (b0 : 1 ≤ b) (b1 : b ≤ 256000) (k0 : 1 ≤ k) (k1 : k ≤ 16) (l0 : 1 ≤ l) (l1 : l ≤ 16) (x0 : 0 ≤ x) (x1 : x ≤ 1048575) (y0 : 0 ≤ y) (y1 : y ≤ 1048575) (v0 : 1 ≤ a * k) (v1 : a * k ≤ 4096000) (g0 : 1 ≤ b * l) (g1 : b * l ≤ 4096000) :
    plX 0 0 0 a b x y (x + a * k) (y + b * l) = 1000 * k ∧ plY 0 0 0 a b x y (x + a * k) (y + b * l) = 1000 * l ∧ plS 0 0 0 a b x y (x + a * k) (y + b * l) = x ∧ plT 0 0 0 a b x y (x + a * k) (y + b * l) = y ∧ plE 0 0 0 a b x y (x + a * k) (y + b * l) = 0 := by
  have U0 := ord (a := x) (b := x + a * k) (by omega)
  have U1 := ord (a := y) (b := y + b * l) (by omega)
  have T0 := ord (a := 0) (b := a) (by omega)
  have T1 := ord (a := 0) (b := b) (by omega)
  have sT := siz_ok (a := 0) (b := 0) (c := a) (d := b) sane_0 sane_0 (sane_of (by omega) (by omega)) (sane_of (by omega) (by omega)) (sane_of (by omega) (by omega)) (sane_of (by omega) (by omega))
  have sU := siz_ok (a := x) (b := y) (c := x + a * k) (d := y + b * l) (sane_of (by omega) (by omega)) (sane_of (by omega) (by omega)) (sane_of (by omega) (by omega)) (sane_of (by omega) (by omega)) (sane_of (by omega) (by omega)) (sane_of (by omega) (by omega))
  rw [show x + a * k - x = a * k by omega, show y + b * l - y = b * l by omega] at sU
  rw [show a - 0 = a by omega, show b - 0 = b by omega] at sT
  have dX := div_exact (a := a) (k := k) (sane_of (by omega) (by omega)) (by omega) (sane_of (by omega) (by omega)) (sane_of (by omega) (by omega))
  have dY := div_exact (a := b) (k := l) (sane_of (by omega) (by omega)) (by omega) (sane_of (by omega) (by omega)) (sane_of (by omega) (by omega))
  have S := sc_ok (a := 0) (b := 0) (c := a) (d := b) (p := x) (q := y) (r := x + a * k) (s := y + b * l)
  rw [T0.1, T0.2, T1.1, T1.2, U0.1, U0.2, U1.1, U1.2, sT.1, sT.2.1, sT.2.2, sU.1, sU.2.1, sU.2.2] at S
  have S := S rfl rfl dX.2 dY.2
  rw [dX.1, dY.1] at S
  have mX := mul_l0 (a := 1000 * k) (sane_of (by omega) (by omega))
  have mY := mul_l0 (a := 1000 * l) (sane_of (by omega) (by omega))
  have hX := shi_2 (t := x) mX.2
  have hY := shi_2 (t := y) mY.2
  have bX := sub_ok (a := x) (b := 0) (sane_of (by omega) (by omega)) sane_0 (sane_of (by omega) (by omega))
  have bY := sub_ok (a := y) (b := 0) (sane_of (by omega) (by omega)) sane_0 (sane_of (by omega) (by omega))
  rw [mX.1, bX.1, bX.2, show x - 0 = x by omega] at hX
  rw [mY.1, bY.1, bY.2, show y - 0 = y by omega] at hY
  have E : plE 0 0 0 a b x y (x + a * k) (y + b * l) = 0 := by
    unfold plE
    rw [U0.1, U0.2, U1.1, U1.2, S.1, S.2.1, S.2.2, hX.2, hY.2]; rfl
  obtain ⟨p, q, r, o, z⟩ := pl_ok E
  rw [U0.1, U0.2, U1.1, U1.2, S.1] at p
  rw [U0.1, U0.2, U1.1, U1.2, S.2.1] at q
  rw [U0.1, U0.2, U1.1, U1.2, S.1, hX.1] at r
  rw [U0.1, U0.2, U1.1, U1.2, S.2.1, hY.1] at o
  exact ⟨p, q, r, o, z⟩

end Go.Proofs.Ytbckjejflbfjlaa.Gm
