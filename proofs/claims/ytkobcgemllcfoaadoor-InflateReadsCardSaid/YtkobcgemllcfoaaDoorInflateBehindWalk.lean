/-
  What stands behind what is told says nothing.
-/
import Derived.Test.YtkobcgemllcfoaaDoorInfArgs
import Derived.Test.YtkobcgemllcfoaaDoorInfAwake
import Derived.Test.YtkobcgemllcfoaaDoorInfLocalMath
namespace Go.Proofs.YtkobcgemllcfoaaDoor
open Go.RowKit Ix
set_option linter.unusedSimpArgs false
set_option linter.unusedVariables false

theorem byR_take {w : World} {B0 : Nat} {p : Option Addr} {l : List UInt8} (h : ByR w B0 p l) (k : Nat) : ByR w B0 p (l.take k) := by
  intro i hi
  have hi2 : i < l.length := by rw [List.length_take] at hi; omega
  obtain ⟨k', o', hp, hk, hc⟩ := h i hi2
  exact ⟨k', o', hp, hk, by rw [hc]; simp⟩
theorem out_byR {w : World} {B g n c : Nat} {l : List UInt8} (h : Out w B (.slice (some ⟨g, 0, none⟩) n c) l) : ByR w w.heap.size (some ⟨g, 0, none⟩) l := by
  obtain ⟨p, c', e, hb⟩ := h.byR
  injection e with e1 e2 e3
  rw [e1]; exact hb
theorem zlibV_err {B : List UInt8} {k : Int} (h : zlibV B = .error k) : (k != 0) = true := by
  unfold zlibV at h
  split at h
  · injection h with h; subst h; rfl
  · split at h
    · injection h with h; subst h; rfl
    · cases hr : rawV (B.drop 2) with
      | error k' =>
        rw [hr] at h
        injection h with h
        subst h
        exact rawV_err hr
      | ok r =>
        obtain ⟨o, n⟩ := r
        rw [hr, tailV] at h
        split at h
        · injection h with h; subst h; rfl
        · split at h
          · cases h
          · injection h with h; subst h; rfl
/-- Are bytes of the call's own the same? -/
theorem same6_any {w : World} {B1 B2 : Nat} {v1 v2 : Value} {l : List UInt8} (h1 : Out w B1 v1 l) (h2 : Out w B2 v2 l) :
    Calls Tryd.prog 25 #[v1, v2] w fun e w' => e = .returned (.bool true) ∧ Kept w w' := by
  have s1 := h1.string
  have s2 := h2.string
  go_enter Tryd.func25, Tryd.ntmps25
  go_wp2_with fail
  go_ret
  exact ⟨rfl, Kept.refl _⟩

set_option maxRecDepth 100000 in
set_option maxHeartbeats 4000000 in
theorem InflateBehind_walk (v0 : Value) (B : List UInt8) (v1 : Value) (more : List UInt8) (w : World) (h0 : ByArg w v0 B) (h1 : ByArg w v1 more) (hord : Ordd w) :
    Calls Tryd.prog 9 #[v0, v1] w fun e w' => e = .returned (.bool true) ∧ Kept w w' := by
  obtain ⟨p, c, rfl, hb, hlc, hlm, -⟩ := h0
  obtain ⟨pm, cm, rfl, hm, hmc, hmm, hmn⟩ := h1
  have AW := Lib.hid (awake6_any w hord)
  have HORD := Lib.hid hord
  have RB := Lib.hid hb
  have RM := Lib.hid hm
  have HLC := Lib.hid hlc
  clear hb hm hord
  by_cases k1 : 400 < B.length
  · have e1 : (400 : Int) < (B.length : Int) := by omega
    go_enter Tryd.func9, Tryd.ntmps9
    go_wp2_with fail
    (with_reducible refine AW.out.mono ?_)
    rintro e w1 ⟨rfl, hk1⟩
    have K1 := Lib.hid hk1
    clear hk1
    go_wp2_with fail
    go_ret
    exact ⟨rfl, K1.out⟩
  have e1 : ¬ (400 : Int) < (B.length : Int) := by omega
  by_cases k2 : 300 < more.length
  · have e2 : (300 : Int) < (more.length : Int) := by omega
    go_enter Tryd.func9, Tryd.ntmps9
    go_wp2_with fail
    (with_reducible refine AW.out.mono ?_)
    rintro e w1 ⟨rfl, hk1⟩
    have K1 := Lib.hid hk1
    clear hk1
    go_wp2_with fail
    go_ret
    exact ⟨rfl, K1.out⟩
  have e2 : ¬ (300 : Int) < (more.length : Int) := by omega
  have ZA := Lib.hid (fun w' (k : Kept w w') => Zlib_any B p c w' (RB.out.kept k (Nat.le_refl _)) hlc (by omega) (HORD.out.kept k))
  cases hz : zlibV B with
  | error k =>
    have hk0 := zlibV_err hz
    have ZE := Lib.hid (fun e w' w'' (h : RawA w' (zlibV B) e w'') => (show Kept w' w'' ∧ e = .returned (.tuple #[.slice none 0 0, .int .i64 0, .int .i64 k]) by
      unfold RawA at h; rw [hz] at h; exact h))
    clear hz hlm hmm
    go_enter Tryd.func9, Tryd.ntmps9
    go_wp2_with fail
    (with_reducible refine AW.out.mono ?_)
    rintro e w1 ⟨rfl, hk1⟩
    have K1 := Lib.hid hk1
    clear hk1
    go_wp2_with fail
    (with_reducible refine (ZA.out _ K1.out).mono ?_)
    intro e w2 hca
    obtain ⟨hk2, rfl⟩ := ZE.out _ _ _ hca
    have K2 := Lib.hid (K1.out.trans hk2)
    clear hca hk2
    go_wp2_with fail
    go_ret
    exact ⟨rfl, K2.out⟩
  | ok r =>
    obtain ⟨o, n⟩ := r
    obtain ⟨hn6, hnB, hM, hcut⟩ := zlib_behind hz
    have ZE := Lib.hid (fun e w' w'' (h : RawA w' (zlibV B) e w'') => (show Kept w' w'' ∧ ∃ v, e = .returned (.tuple #[v, .int .i64 n, .int .i64 0]) ∧ Out w'' w'.heap.size v o ∧ o.length ≤ 1048576 by
      unfold RawA at h; rw [hz] at h; exact h))
    have HM := Lib.hid hM
    have HCUT := Lib.hid hcut
    have HNB := Lib.hid hnB
    have f1 : ¬ (n : Int) < 6 := by omega
    have f2 : ¬ (B.length : Int) < (n : Int) := by omega
    clear hz hM hcut hlm hmm
    go_enter Tryd.func9, Tryd.ntmps9
    go_wp2_with fail
    (with_reducible refine AW.out.mono ?_)
    rintro e w1 ⟨rfl, hk1⟩
    have K1 := Lib.hid hk1
    clear hk1
    go_wp2_with fail
    (with_reducible refine (ZA.out _ K1.out).mono ?_)
    intro e w2 hca
    obtain ⟨hk2, v, rfl, hov, hol⟩ := ZE.out _ _ _ hca
    have K2 := Lib.hid (K1.out.trans hk2)
    have OV := Lib.hid hov
    obtain ⟨pv, cv, hv⟩ : ∃ pv cv, v = .slice pv o.length cv := by
      rcases hov.parts with ⟨rfl, rfl⟩ | ⟨g, cap, rfl, -, -⟩
      · exact ⟨none, 0, rfl⟩
      · exact ⟨_, cap, rfl⟩
    subst hv
    have f3 : ¬ (1048576 : Int) < (o.length : Int) := by omega
    clear hca hk2 hov
    obtain ⟨kb, ko, hp, hkb, -⟩ := RB.out 0 (by omega)
    subst hp
    have KE := Lib.hid (show Kept w (w2.alloc (.cells #[] 5)) from K2.out.allocO _)
    have OE := Lib.hid (Out.empty w2 (B0 := w2.heap.size) (Nat.le_refl _))
    have hsE := Below.size KE.out
    have hs2E : w2.heap.size ≤ (w2.alloc (.cells #[] 5)).heap.size := by simp
    have hlT : (B.take n).length = n := by rw [List.length_take]; omega
    have BT := Lib.hid (byR_take (RB.out.kept KE.out (Nat.le_refl _)) n)
    have BTE := Lib.hid (show ByR (w2.alloc (.cells #[] 5)) (w2.alloc (.cells #[] 5)).heap.size (some ⟨kb, ko, none⟩) (B.take n) from fun i hi => by
      obtain ⟨k', o', hp', hk', hc'⟩ := BT.out i hi
      exact ⟨k', o', hp', by omega, hc'⟩)
    have n0 : (0 : Int) ≤ (n : Int) := by omega
    have n1 : (n : Int) ≤ (c : Int) := by omega
    have n2 : n ≤ c := by omega
    have hmn' : pm = none → more.length = 0 ∧ cm = 0 := fun e => ⟨by have := hmn e; omega, hmn e⟩
    have HMN := Lib.hid hmn'
    have hl6 : (B.take n ++ more).length = n + more.length := by rw [List.length_append, hlT]
    clear hmn hmn'
    go_upto_region 10 with (first
      | (at_builtin; refine wpList_app_any rfl _ _ rfl OE.out rfl (some ⟨kb, ko, none⟩) _ c (B.take n) hlT.symm rfl BTE.out (fun e => by cases e) hs2E (by simp; omega) ?_; intro v5 w5 ho5 hg5; rw [List.nil_append] at ho5; obtain ⟨g5, cap5, hv5, hc5⟩ := ho5.shape (by omega); rw [hlT] at hv5 hc5; subst hv5; have O5 := Lib.hid ho5; have K5 := Lib.hid (show Kept w2 w5 from Below.grown ((Kept.refl w2).allocO _) hg5 (by simp) (fun x hx => (OE.out.lt x hx).1)); clear ho5 hg5)
      | (at_builtin; refine wpList_app_any rfl _ _ rfl O5.out rfl pm _ cm more rfl rfl (RM.out.kept (K2.out.trans K5.out) (Nat.le_refl _)) HMN.out (Below.size K5.out) (by omega) ?_; intro v6 w6 ho6 hg6; obtain ⟨g6, cap6, hv6, hc6⟩ := ho6.shape (by rw [hl6]; omega); rw [hl6] at hv6 hc6; subst hv6; have O6 := Lib.hid ho6; have K6 := Lib.hid (show Kept w2 w6 from Below.grown K5.out hg6 (Below.size K5.out) (fun x hx => (O5.out.lt x hx).1)); have HC6 := Lib.hid hc6; clear ho6 hg6 hc6)
      | (have RW := Lib.hid (show Calls Tryd.prog 23 #[.slice (some ⟨g6, 0, none⟩) (n + more.length) cap6] w6 (RawA w6 (.ok (o, n))) from (by have zz := Zlib_any (B.take n ++ more) (some ⟨g6, 0, none⟩) cap6 w6 (out_byR O6.out) (by rw [hl6]; exact HC6.out) (by rw [hl6]; omega) (HORD.out.kept (K2.out.trans K6.out)); rw [hl6, HM.out] at zz; exact zz)); go_at_call 23; (with_reducible refine RW.out.mono ?_); rintro e w7 ⟨hk7, v7, rfl, ho7, -⟩; have O7 := Lib.hid ho7; have K7 := Lib.hid (K6.out.trans hk7); clear ho7 hk7))
    have hlj : (B.take (n - 1)).length = n - 1 := by rw [List.length_take]; omega
    have hni : (n : Int) - 1 = ((n - 1 : Nat) : Int) := by omega
    obtain ⟨j, hj⟩ : ∃ j, j = n - 1 := ⟨_, rfl⟩
    have KW7 := Lib.hid (K2.out.trans K7.out)
    have RW2 := Lib.hid (show Calls Tryd.prog 23 #[.slice (some ⟨kb, ko, none⟩) j c] w7 (RawA w7 (.error 4)) from (by
      have zz := Zlib_any (B.take (n - 1)) (some ⟨kb, ko, none⟩) c w7 (byR_take (RB.out.kept KW7.out (Nat.le_refl _)) (n - 1)) (by rw [hlj]; omega) (by rw [hlj]; omega) (HORD.out.kept KW7.out)
      rw [hlj, HCUT.out, ← hj] at zz
      exact zz))
    have hji : (n : Int) - 1 = (j : Int) := by omega
    have hj0 : (0 : Int) ≤ (j : Int) := by omega
    have hj1 : (j : Int) ≤ (c : Int) := by omega
    have hj2 : j ≤ c := by omega
    have hjw : IntKind.i64.wrap (j : Int) = (j : Int) := IntWalk.i64_in _ (by omega)
    clear hlj hni hj hl6
    go_wp2_with fail
    (with_reducible refine RW2.out.mono ?_)
    rintro e w8 ⟨hk8, he⟩
    obtain rfl : e = .returned (.tuple #[.slice none 0 0, .int .i64 0, .int .i64 4]) := he
    have K8 := Lib.hid (KW7.out.trans hk8)
    have O8 := Lib.hid (O7.out.kept hk8)
    have OV8 := Lib.hid (OV.out.kept (K7.out.trans hk8))
    have SA := Lib.hid (same6_any OV8.out O8.out)
    clear hk8
    go_wp2_with fail
    (with_reducible refine SA.out.mono ?_)
    rintro e w9 ⟨rfl, hk9⟩
    have K9 := Lib.hid (K8.out.trans hk9)
    clear hk9
    go_wp2_with fail
    go_ret
    exact ⟨rfl, K9.out⟩

end Go.Proofs.YtkobcgemllcfoaaDoor
