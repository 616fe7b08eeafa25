/-
  Plain numbers behind the laws of layer 2: the matrix that changes nothing, and shifts.
-/
import Derived.Test.YtbckjejflbfjlaaGeomPlaceMath
namespace Go.Proofs.Ytbckjejflbfjlaa.Gm
open Fx

theorem rnd_1000 (a : Int) : rnd (a * 1000) 1000 = a := by
  have e : (a * 1000).tmod 1000 = 0 := Int.mul_tmod_left a 1000
  have d : (a * 1000).tdiv 1000 = a := Int.mul_tdiv_cancel a (by omega)
  rw [rnd_low (by rw [e]; decide), d]
theorem rnd_0 (d : Int) (hd : d ≠ 0) : rnd 0 d = 0 := by
  have e : (0 : Int).tmod d = 0 := Int.zero_tmod d
  rw [rnd_low (by rw [e]; unfold mag; split <;> split <;> omega), Int.zero_tdiv]
theorem sane_1000 : saneB 1000 = true := by decide
theorem sane_0 : saneB 0 = true := by decide
theorem chk_ok {a : Int} (h : saneB a = true) : chkV a = a ∧ chkE a = 0 := ⟨if_pos h, if_pos h⟩
theorem mul_r1 {a : Int} (h : saneB a = true) : mulV a 1000 = a ∧ mulE a 1000 = 0 := by
  unfold mulV mulE
  rw [if_pos ⟨h, sane_1000⟩, if_pos ⟨h, sane_1000⟩, rnd_1000]
  exact chk_ok h
theorem mul_l1 {a : Int} (h : saneB a = true) : mulV 1000 a = a ∧ mulE 1000 a = 0 := by
  unfold mulV mulE
  rw [if_pos ⟨sane_1000, h⟩, if_pos ⟨sane_1000, h⟩, Int.mul_comm, rnd_1000]
  exact chk_ok h
theorem mul_r0 {a : Int} (h : saneB a = true) : mulV a 0 = 0 ∧ mulE a 0 = 0 := by
  unfold mulV mulE
  rw [if_pos ⟨h, sane_0⟩, if_pos ⟨h, sane_0⟩, Int.mul_zero, rnd_0 _ (by omega)]
  exact chk_ok sane_0
theorem mul_l0 {a : Int} (h : saneB a = true) : mulV 0 a = 0 ∧ mulE 0 a = 0 := by
  unfold mulV mulE
  rw [if_pos ⟨sane_0, h⟩, if_pos ⟨sane_0, h⟩, Int.zero_mul, rnd_0 _ (by omega)]
  exact chk_ok sane_0
theorem add_ok {a b : Int} (ha : saneB a = true) (hb : saneB b = true) (h : saneB (a + b) = true) : addV a b = a + b ∧ addE a b = 0 := by
  unfold addV addE
  rw [if_pos ⟨ha, hb⟩, if_pos ⟨ha, hb⟩]
  exact chk_ok h
theorem sub_ok {a b : Int} (ha : saneB a = true) (hb : saneB b = true) (h : saneB (a - b) = true) : subV a b = a - b ∧ subE a b = 0 := by
  unfold subV subE
  rw [if_pos ⟨ha, hb⟩, if_pos ⟨ha, hb⟩]
  exact chk_ok h

theorem two_of {a b c d p q : Int} (h1 : mulV a b = p ∧ mulE a b = 0) (h2 : mulV c d = q ∧ mulE c d = 0) (hp : saneB p = true) (hq : saneB q = true) (h : saneB (p + q) = true) : twoV a b c d = p + q ∧ twoE a b c d = 0 := by
  obtain ⟨e, f⟩ := two_3 h1.2 h2.2
  rw [h1.1, h2.1] at e f
  have k := add_ok hp hq h
  exact ⟨e.trans k.1, f.trans k.2⟩
theorem pls_of {a b c d e p : Int} (h1 : twoV a b c d = p ∧ twoE a b c d = 0) (hp : saneB p = true) (he : saneB e = true) (h : saneB (p + e) = true) : plsV a b c d e = p + e ∧ plsE a b c d e = 0 := by
  obtain ⟨k, f⟩ := pls_2 (e := e) h1.2
  rw [h1.1] at k f
  have q := add_ok hp he h
  exact ⟨k.trans q.1, f.trans q.2⟩

theorem two_r0 {a b : Int} (ha : saneB a = true) (hb : saneB b = true) : twoV a 1000 b 0 = a ∧ twoE a 1000 b 0 = 0 := by
  have := two_of (mul_r1 ha) (mul_r0 hb) ha sane_0 (by rw [Int.add_zero]; exact ha)
  rwa [Int.add_zero] at this
theorem two_r1 {a b : Int} (ha : saneB a = true) (hb : saneB b = true) : twoV a 0 b 1000 = b ∧ twoE a 0 b 1000 = 0 := by
  have := two_of (mul_r0 ha) (mul_r1 hb) sane_0 hb (by rw [Int.zero_add]; exact hb)
  rwa [Int.zero_add] at this
theorem two_l0 {a b : Int} (ha : saneB a = true) (hb : saneB b = true) : twoV 1000 a 0 b = a ∧ twoE 1000 a 0 b = 0 := by
  have := two_of (mul_l1 ha) (mul_l0 hb) ha sane_0 (by rw [Int.add_zero]; exact ha)
  rwa [Int.add_zero] at this
theorem two_l1 {a b : Int} (ha : saneB a = true) (hb : saneB b = true) : twoV 0 a 1000 b = b ∧ twoE 0 a 1000 b = 0 := by
  have := two_of (mul_l0 ha) (mul_l1 hb) sane_0 hb (by rw [Int.zero_add]; exact hb)
  rwa [Int.zero_add] at this
theorem two_00 {a b : Int} (ha : saneB a = true) (hb : saneB b = true) : twoV 0 a 0 b = 0 ∧ twoE 0 a 0 b = 0 :=
  two_of (mul_l0 ha) (mul_l0 hb) sane_0 sane_0 sane_0
theorem pls_r0 {a b e : Int} (ha : saneB a = true) (hb : saneB b = true) (he : saneB e = true) (h : saneB (a + e) = true) : plsV a 1000 b 0 e = a + e ∧ plsE a 1000 b 0 e = 0 := pls_of (two_r0 ha hb) ha he h
theorem pls_r1 {a b e : Int} (ha : saneB a = true) (hb : saneB b = true) (he : saneB e = true) (h : saneB (b + e) = true) : plsV a 0 b 1000 e = b + e ∧ plsE a 0 b 1000 e = 0 := pls_of (two_r1 ha hb) hb he h
theorem pls_00 {a b e : Int} (ha : saneB a = true) (hb : saneB b = true) (he : saneB e = true) : plsV 0 a 0 b e = e ∧ plsE 0 a 0 b e = 0 := by
  have := pls_of (two_00 ha hb) sane_0 he (by rw [Int.zero_add]; exact he)
  rwa [Int.zero_add] at this

theorem mat_ok {m0 m1 m2 m3 m4 m5 n0 n1 n2 n3 n4 n5 : Int} (h0 : twoE m0 n0 m1 n2 = 0) (h1 : twoE m0 n1 m1 n3 = 0) (h2 : twoE m2 n0 m3 n2 = 0) (h3 : twoE m2 n1 m3 n3 = 0) (h4 : plsE m4 n0 m5 n2 n4 = 0) (h5 : plsE m4 n1 m5 n3 n5 = 0) : matE m0 m1 m2 m3 m4 m5 n0 n1 n2 n3 n4 n5 = 0 := by
  unfold matE; rw [h0, h1, h2, h3, h4, h5]; rfl

/-- Where a shift brings a place. -/
theorem app_shift {e f x y : Int} (he : saneB e = true) (hf : saneB f = true) (hx : saneB x = true) (hy : saneB y = true) (h : saneB (x + e) = true) (h' : saneB (y + f) = true) : appX 1000 0 0 1000 e f x y = x + e ∧ appY 1000 0 0 1000 e f x y = y + f ∧ appE 1000 0 0 1000 e f x y = 0 := by
  have a := pls_r0 hx hy he h
  have b := pls_r1 hx hy hf h'
  obtain ⟨p, q, r⟩ := app_3 (m0 := 1000) (m1 := 0) (m2 := 0) (m3 := 1000) (m4 := e) (m5 := f) a.2 b.2
  exact ⟨p.trans a.1, q.trans b.1, r⟩

theorem sane_of {a : Int} (h : -2147483648 ≤ a) (h' : a ≤ 2147483648) : saneB a = true := sane_iff.2 ⟨h, h'⟩

end Go.Proofs.Ytbckjejflbfjlaa.Gm
