/-
  The reference's coded and stored.
-/
import Derived.Test.YtkobcgemllcfoaaDoorInfRefCopies
import Derived.Test.YtkobcgemllcfoaaDoorInfRefCodes
import Derived.Test.YtkobcgemllcfoaaDoorInfOwnTrees
import Derived.Test.YtkobcgemllcfoaaDoorInfBlockMath
import Derived.Test.YtkobcgemllcfoaaDoorInfPressed
namespace Go.Proofs.YtkobcgemllcfoaaDoor
open Go.RowKit Ix
set_option linter.unusedSimpArgs false
set_option linter.unusedVariables false

/-- Symbols by such lengths, if these are trees. -/
def codedV (S D : List Nat) (B : List UInt8) (t : Nat) (out : List UInt8) : Except Int (List UInt8 × Nat) :=
  if isTree S = false then .error 3 else if isTree D = false then .error 3 else pressGo S D B (8 * B.length + 1) t out
theorem press_copies {S D : List Nat} {B : List UInt8} {f t s t1 : Nat} {out : List UInt8} (h : sym S B t = .ok (s, t1)) (h1 : 256 < s) (h2 : s ≤ 285) :
    (∀ k, copiesV D B s t1 out = .error k → pressGo S D B (f + 1) t out = .error k) ∧ ∀ o t', copiesV D B s t1 out = .ok (o, t') → pressGo S D B (f + 1) t out = pressGo S D B f t' o := by
  unfold copiesV
  rw [pressGo, h]
  simp only
  rw [if_neg (show ¬ s < 256 by omega), if_neg (show ¬ s = 256 by omega), if_neg (show ¬ 285 < s by omega)]
  cases hl : lenV B s t1 with
  | error k =>
    simp only
    exact ⟨fun k' h => h, fun o t' h => by cases h⟩
  | ok r =>
    obtain ⟨n, t2⟩ := r
    simp only
    cases hd : distV D B t2 with
    | error k =>
      simp only
      exact ⟨fun k' h => h, fun o t' h => by cases h⟩
    | ok r =>
      obtain ⟨back, t3⟩ := r
      simp only
      cases ha : againV n back out with
      | error k =>
        simp only
        exact ⟨fun k' h => h, fun o t' h => by cases h⟩
      | ok o1 =>
        simp only
        refine ⟨fun k' h => (by cases h), fun o t' h => ?_⟩
        simp only [Except.ok.injEq, Prod.mk.injEq] at h
        rw [h.1, h.2]
theorem Ro.ints {w : World} {b : Nat} {v pv : Value} {X : List Nat} (h : Ro w b v pv X) : ∃ p cap, pv = .slice p X.length cap ∧ IntsR w p (X.map Int.ofNat) := by
  obtain ⟨p, cap, h1, h2⟩ := h
  refine ⟨p, cap, h1, fun i hi => ?_⟩
  rw [List.length_map] at hi
  obtain ⟨k, o, hp, hk, -, -, hc⟩ := h2 i hi
  exact ⟨k, o, hp, hk, by rw [hc]; simp⟩
/-- What the reference's Codes leaves of small lengths. -/
theorem refCodes_small (L : List Nat) (hl : L.length ≤ 320) (hx : ∀ x ∈ L, x ≤ 15) (b : Nat) (v pv : Value) (w : World) (h : Ro w b v pv L) (hb : b < w.heap.size) (hv : ∀ k, v.ownBlock = some k → k < w.heap.size) :
    Calls Tryd.prog 27 #[pv] w fun e w' => Kept w w' ∧ ((isTree L = false ∧ e = .returned (.tuple #[.slice none 0 0, .int .i64 3])) ∨ (isTree L = true ∧ ∃ cv, e = .returned (.tuple #[cv, .int .i64 0]) ∧ Ro w' b v cv (codes L))) := by
  obtain ⟨p, cap, rfl, hi⟩ := h.ints
  have z := refCodes_any (L.map Int.ofNat) p cap w hi (by rw [List.length_map]; omega)
  rw [List.length_map] at z
  refine z.mono fun e w' hr => ?_
  unfold CodesA at hr
  rw [codesV_small L hl hx] at hr
  obtain ⟨hk, hr⟩ := hr
  refine ⟨hk, ?_⟩
  cases ht : isTree L with
  | false => rw [ht] at hr; exact .inl ⟨rfl, hr⟩
  | true =>
    rw [ht] at hr
    obtain ⟨g, he, hg, ha, hcl⟩ := hr
    rw [List.length_map] at he ha
    refine .inr ⟨rfl, _, he, some ⟨g, 0, none⟩, L.length, by unfold codes; simp, fun i hi => ?_⟩
    have hil : i < L.length := by unfold codes at hi; simpa using hi
    refine ⟨g, 0, rfl, ha.lt, by omega, fun e => by have := hv g e; omega, ?_⟩
    rw [Nat.zero_add, ha.cell i hil]
    simp [List.getD, hi]

set_option maxRecDepth 100000 in
set_option maxHeartbeats 4000000 in
theorem refCoded_any (S D : List Nat) (lv dv : Value) {w : World} {B0 b : Nat} {p : Option Addr} {c : Nat} {B : List UInt8} {t : Nat} {v : Value} {out : List UInt8} (h : Sw w B0 b p c B t v out 0) (hB : B.length ≤ 1099511627776)
    (hl : Ro w b v lv S) (hd : Ro w b v dv D) (hS : S.length ≤ 320) (hD : D.length ≤ 320) (xS : ∀ x ∈ S, x ≤ 15) (xD : ∀ x ∈ D, x ≤ 15) :
    Calls Tryd.prog 49 #[.pointer (some ⟨b, 0, none⟩), lv, dv] w (CopA w B0 b p c B v (codedV S D B t out)) := by
  have HS := Lib.hid h
  have HL := Lib.hid hl
  have HD := Lib.hid hd
  have XS := Lib.hid xS
  have XD := Lib.hid xD
  have CS := Lib.hid (refCodes_small S hS xS b v lv w hl h.blk.lt (fun k e => (h.own.lt k e).2))
  clear h hl hd xS xD
  go_enter Tryd.func49, Tryd.ntmps49
  go_wp2_with fail
  (with_reducible refine CS.out.mono ?_)
  intro en w1 hc1
  obtain ⟨hk1, ⟨hnt, rfl⟩ | ⟨hyt, cv, rfl, hrc⟩⟩ := hc1
  · have HV := Lib.hid (show codedV S D B t out = .error 3 from if_pos hnt)
    have HR1 := Lib.hid ((SwR.refl HS.out).kept hk1)
    have FA := Lib.hid (fail_any HR1.out.st 3)
    clear hk1 hnt
    go_wp2_with fail
    (with_reducible refine FA.out.mono ?_)
    rintro en w2 ⟨rfl, hs2⟩
    have hef : ef 0 3 = 3 := rfl
    rw [hef] at hs2
    have HR2 := Lib.hid (HR1.out.then hs2)
    have CD := Lib.hid (refCodes_small D hD XD.out b v dv w2 (HD.out.gr HR2.out.gr) HR2.out.st.blk.lt (fun k e => (HR2.out.st.own.lt k e).2))
    clear hs2 hef
    go_wp2_with fail
    (with_reducible refine CD.out.mono ?_)
    intro en w3 hc3
    obtain ⟨hk3, ⟨hnt, rfl⟩ | ⟨hyt, cv, rfl, hrc⟩⟩ := hc3
    · have HR3 := Lib.hid (HR2.out.kept hk3)
      have FA3 := Lib.hid (fail_any HR3.out.st 3)
      clear hk3 hnt
      go_wp2_with fail
      (with_reducible refine FA3.out.mono ?_)
      rintro en w4 ⟨rfl, hs4⟩
      have hef : ef 3 3 = 3 := rfl
      rw [hef] at hs4
      have HR4 := Lib.hid (HR3.out.then hs4)
      obtain ⟨c0, c1, c2, c3⟩ := HR4.out.st.cells
      clear hs4 hef
      go_wp2_with fail
      go_loopg [9] 1 (fun m sv wr => m = 1 ∧ wr = w4)
      case atStart => exact ⟨rfl, rfl⟩
      case round =>
        obtain ⟨hm, rfl⟩ := hrel
        go_wp2_with fail
        refine bodyPost_end (results_none rfl _ _ _) rfl ?_
        exact copA_no HV.out (by decide) HR4.out
    · have HR3 := Lib.hid (HR2.out.kept hk3)
      have FA3 := Lib.hid (fail_any HR3.out.st 0)
      clear hk3 hyt hrc
      go_wp2_with fail
      (with_reducible refine FA3.out.mono ?_)
      rintro en w4 ⟨rfl, hs4⟩
      have hef : ef 3 0 = 3 := rfl
      rw [hef] at hs4
      have HR4 := Lib.hid (HR3.out.then hs4)
      obtain ⟨c0, c1, c2, c3⟩ := HR4.out.st.cells
      clear hs4 hef
      go_wp2_with fail
      go_loopg [9] 1 (fun m sv wr => m = 1 ∧ wr = w4)
      case atStart => exact ⟨rfl, rfl⟩
      case round =>
        obtain ⟨hm, rfl⟩ := hrel
        go_wp2_with fail
        refine bodyPost_end (results_none rfl _ _ _) rfl ?_
        exact copA_no HV.out (by decide) HR4.out
  · have HV1 := Lib.hid (show codedV S D B t out = if isTree D = false then .error 3 else pressGo S D B (8 * B.length + 1) t out from if_neg (by rw [hyt]; simp))
    have HR1 := Lib.hid ((SwR.refl HS.out).kept hk1)
    have RC1 := Lib.hid hrc
    have FA := Lib.hid (fail_any HR1.out.st 0)
    clear hk1 hyt hrc
    go_wp2_with fail
    (with_reducible refine FA.out.mono ?_)
    rintro en w2 ⟨rfl, hs2⟩
    have hef : ef 0 0 = 0 := rfl
    rw [hef] at hs2
    have HR2 := Lib.hid (HR1.out.then hs2)
    have RC2 := Lib.hid (RC1.out.gr hs2.gr)
    have CD := Lib.hid (refCodes_small D hD XD.out b v dv w2 (HD.out.gr HR2.out.gr) HR2.out.st.blk.lt (fun k e => (HR2.out.st.own.lt k e).2))
    clear hs2 hef
    go_wp2_with fail
    (with_reducible refine CD.out.mono ?_)
    intro en w3 hc3
    obtain ⟨hk3, ⟨hnt, rfl⟩ | ⟨hyt, cw, rfl, hrc⟩⟩ := hc3
    · have HV := Lib.hid (HV1.out.trans (if_pos hnt))
      have HR3 := Lib.hid (HR2.out.kept hk3)
      have FA3 := Lib.hid (fail_any HR3.out.st 3)
      clear hk3 hnt
      go_wp2_with fail
      (with_reducible refine FA3.out.mono ?_)
      rintro en w4 ⟨rfl, hs4⟩
      have hef : ef 0 3 = 3 := rfl
      rw [hef] at hs4
      have HR4 := Lib.hid (HR3.out.then hs4)
      obtain ⟨c0, c1, c2, c3⟩ := HR4.out.st.cells
      clear hs4 hef
      go_wp2_with fail
      go_loopg [9] 1 (fun m sv wr => m = 1 ∧ wr = w4)
      case atStart => exact ⟨rfl, rfl⟩
      case round =>
        obtain ⟨hm, rfl⟩ := hrel
        go_wp2_with fail
        refine bodyPost_end (results_none rfl _ _ _) rfl ?_
        exact copA_no HV.out (by decide) HR4.out
    · have HV := Lib.hid (HV1.out.trans (if_neg (by rw [hyt]; simp)))
      have HR3 := Lib.hid (HR2.out.kept hk3)
      have RC3 := Lib.hid (RC2.out.gr (Gr.ofKept hk3))
      have RD3 := Lib.hid hrc
      have FA3 := Lib.hid (fail_any HR3.out.st 0)
      clear hk3 hyt hrc
      go_wp2_with fail
      (with_reducible refine FA3.out.mono ?_)
      rintro en w4 ⟨rfl, hs4⟩
      have hef : ef 0 0 = 0 := rfl
      rw [hef] at hs4
      have HR4 := Lib.hid (HR3.out.then hs4)
      have RC4 := Lib.hid (RC3.out.gr hs4.gr)
      have RD4 := Lib.hid (RD3.out.gr hs4.gr)
      have HL4 := Lib.hid (HL.out.gr HR4.out.gr)
      have HD4 := Lib.hid (HD.out.gr HR4.out.gr)
      clear hs4 hef
      go_wp2_with fail
      go_loopg [9] (8 * B.length + 1) (fun m sv wr => ∃ (f tt : Nat) (o : List UInt8) (v1 : Value) (e1 : Int), m = f ∧ SwR w4 B0 b p c B v wr tt v1 o e1 ∧ ((e1 = 0 ∧ 8 * B.length < f + tt ∧ Hid (pressGo S D B f tt o = pressGo S D B (8 * B.length + 1) t out)) ∨ (e1 ≠ 0 ∧ Hid (pressGo S D B (8 * B.length + 1) t out = .error e1))))
      case atStart => exact ⟨8 * B.length + 1, t, out, v, 0, rfl, SwR.refl HR4.out.st, .inl ⟨rfl, by omega, Lib.hid rfl⟩⟩
      case round =>
        obtain ⟨f, tt, o, v1, e1, hm, hs, hst⟩ := hrel
        have HR5 := Lib.hid hs
        obtain ⟨c0, c1, c2, c3⟩ := hs.st.cells
        clear hs
        rcases hst with ⟨rfl, hf, HG⟩ | ⟨he1, HG⟩
        · have htt := HR5.out.st.le
          obtain ⟨f', rfl⟩ : ∃ f', f = f' + 1 := ⟨f - 1, by omega⟩
          have SY := Lib.hid (refSymbol_any S lv cv HR5.out.st hB (HL4.out.gr HR5.out.gr) (RC4.out.gr HR5.out.gr) (by omega))
          go_wp2_with fail
          (with_reducible refine SY.out.mono ?_)
          intro en w6 hsy
          rcases hsy with ⟨s, t6, hr, rfl, hs6⟩ | ⟨k', t6, hr, hk0, rfl, hs6⟩
          rotate_left
          · have HR6 := Lib.hid (HR5.out.then hs6)
            have HN := Lib.hid (show codedV S D B t out = .error k' by rw [HV.out, ← HG.out]; exact press_no hr)
            obtain ⟨c0, c1, c2, c3⟩ := HR6.out.st.cells
            have hk1 : (k' != 0) = true := by rw [bne_iff_ne]; exact hk0
            have HK0 := Lib.hid hk0
            clear hs6 hr hk0
            go_wp2_with fail
            refine bodyPost_ret (results_none rfl _ _ _) rfl ?_
            exact copA_no HN.out HK0.out (HR4.out.then HR6.out)
          · have HR6 := Lib.hid (HR5.out.then hs6)
            obtain ⟨c0, c1, c2, c3⟩ := HR6.out.st.cells
            have HSY := Lib.hid hr
            have hsl := (sym_in hr).1
            have hlt6 := (sym_in hr).2.1
            clear hs6 hr
            by_cases hs256 : s = 256
            · have HE := Lib.hid (show codedV S D B t out = .ok (o, t6) by rw [HV.out, ← HG.out]; exact press_end (by rw [← hs256]; exact HSY.out))
              have g0 : ((s : Int) == 256) = true := by rw [beq_iff_eq]; omega
              clear hs256
              go_wp2_with fail
              refine bodyPost_ret (results_none rfl _ _ _) rfl ?_
              exact ⟨rfl, .inl ⟨o, t6, v1, HE.out, HR4.out.then HR6.out⟩⟩
            · have g0 : ((s : Int) == 256) = false := by rw [beq_eq_false_iff_ne]; omega
              by_cases hs1 : s < 256
              · have g1 : (s : Int) < 256 := by omega
                obtain ⟨x, hx⟩ : ∃ x, x = UInt8.ofNat s := ⟨_, rfl⟩
                have hxs : x.toNat = s := by rw [hx, UInt8.toNat_ofNat']; exact Nat.mod_eq_of_lt hs1
                have PU := Lib.hid (show Calls Tryd.prog 87 #[.pointer (some ⟨b, 0, none⟩), .int .u8 (s : Int)] w6 _ from (by have z := refPut_any HR6.out.st x; rw [hxs] at z; exact z))
                have hcv : (s : Int) % 256 = (s : Int) := by omega
                have HX := Lib.hid hx
                clear hs256 hx hxs
                have HPP := Lib.hid (press_put (D := D) (f := f') (out := o) HSY.out hs1)
                rw [← HX.out] at HPP
                go_wp2_with fail
                (with_reducible refine PU.out.mono ?_)
                intro en w8 hput
                obtain ⟨rfl, hp8 | ⟨hp8, v8, hs8⟩⟩ := hput
                · have HN := Lib.hid (show pressGo S D B (8 * B.length + 1) t out = .error 6 by rw [← HG.out]; exact HPP.out.1 6 hp8.1)
                  have hef : ef 0 6 = 6 := rfl
                  have HR8 := Lib.hid (HR6.out.then hp8.2)
                  rw [hef] at HR8
                  clear hp8 hef
                  go_wp2_with fail
                  go_roundg f'
                  case measure => omega
                  case rel => exact ⟨f', t6, o, v1, 6, rfl, HR8.out, .inr ⟨by decide, HN⟩⟩
                · have HN := Lib.hid (show pressGo S D B f' t6 (o ++ [x]) = pressGo S D B (8 * B.length + 1) t out by rw [← HG.out]; exact (HPP.out.2 _ hp8).symm)
                  have HR8 := Lib.hid (HR6.out.then hs8)
                  clear hp8 hs8
                  go_wp2_with fail
                  go_roundg f'
                  case measure => omega
                  case rel => exact ⟨f', t6, o ++ [x], v8, 0, rfl, HR8.out, .inl ⟨rfl, by omega, HN⟩⟩
              · have g1 : ¬ (s : Int) < 256 := by omega
                by_cases hs2 : 285 < s
                · have g2 : (285 : Int) < (s : Int) := by omega
                  have HN := Lib.hid (show pressGo S D B (8 * B.length + 1) t out = .error 3 by rw [← HG.out]; exact press_big HSY.out hs2)
                  have FA6 := Lib.hid (fail_any HR6.out.st 3)
                  clear hs256 hs1 hs2
                  go_wp2_with fail
                  (with_reducible refine FA6.out.mono ?_)
                  rintro en w8 ⟨rfl, hs8⟩
                  have hef : ef 0 3 = 3 := rfl
                  rw [hef] at hs8
                  have HR8 := Lib.hid (HR6.out.then hs8)
                  clear hs8 hef
                  go_wp2_with fail
                  go_roundg f'
                  case measure => omega
                  case rel => exact ⟨f', t6, o, v1, 3, rfl, HR8.out, .inr ⟨by decide, HN⟩⟩
                · have g2 : ¬ (285 : Int) < (s : Int) := by omega
                  have CO := Lib.hid (refCopies_any s D dv cw HR6.out.st hB (HD4.out.gr HR6.out.gr) (RD4.out.gr HR6.out.gr) (by omega) (by omega) (by omega))
                  have HPC := Lib.hid (press_copies (D := D) (f := f') (out := o) HSY.out (by omega) (by omega))
                  clear hs256 hs1 hs2
                  go_wp2_with fail
                  (with_reducible refine CO.out.mono ?_)
                  intro en w8 hco
                  obtain ⟨rfl, ⟨o8, t8, v8, hr8, hs8⟩ | ⟨k8, t8, v8, o8, hr8, hk8, hs8⟩⟩ := hco
                  · have HN := Lib.hid (show pressGo S D B f' t8 o8 = pressGo S D B (8 * B.length + 1) t out by rw [← HG.out]; exact (HPC.out.2 _ _ hr8).symm)
                    have HR8 := Lib.hid (HR6.out.then hs8)
                    have ht8 : t6 ≤ t8 := by
                      unfold copiesV at hr8
                      split at hr8
                      · cases hr8
                      · rename_i hl8
                        split at hr8
                        · cases hr8
                        · rename_i hd8
                          have a1 := (lenV_ge hl8).1
                          have a2 := (distV_ge hd8).1
                          split at hr8
                          · cases hr8
                          · simp only [Except.ok.injEq, Prod.mk.injEq] at hr8
                            omega
                    clear hr8 hs8
                    go_wp2_with fail
                    go_roundg f'
                    case measure => omega
                    case rel => exact ⟨f', t8, o8, v8, 0, rfl, HR8.out, .inl ⟨rfl, by omega, HN⟩⟩
                  · have HN := Lib.hid (show pressGo S D B (8 * B.length + 1) t out = .error k8 by rw [← HG.out]; exact HPC.out.1 _ hr8)
                    have HR8 := Lib.hid (HR6.out.then hs8)
                    have HK8 := Lib.hid hk8
                    clear hr8 hs8 hk8
                    go_wp2_with fail
                    go_roundg f'
                    case measure => omega
                    case rel => exact ⟨f', t8, o8, v8, k8, rfl, HR8.out, .inr ⟨HK8.out, HN⟩⟩
        · have HN := Lib.hid (HV.out.trans HG.out)
          have f0 : (e1 == 0) = false := by rw [beq_eq_false_iff_ne]; exact he1
          have HE1 := Lib.hid he1
          clear he1
          go_wp2_with fail
          refine bodyPost_end (results_none rfl _ _ _) rfl ?_
          exact copA_no HN.out HE1.out (HR4.out.then HR5.out)

end Go.Proofs.YtkobcgemllcfoaaDoor
