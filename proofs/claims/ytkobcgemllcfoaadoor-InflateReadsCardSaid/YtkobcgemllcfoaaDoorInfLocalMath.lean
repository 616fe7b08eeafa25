/-
  What stands behind what is told says nothing.
-/
import Derived.Test.YtkobcgemllcfoaaDoorInfBlockMath
namespace Go.Proofs.YtkobcgemllcfoaaDoor.Ix
set_option linter.unusedSimpArgs false
set_option linter.unusedVariables false

/-- The first m bytes are the same. -/
structure Ag (B C : List UInt8) (m : Nat) : Prop where
  here : m ≤ B.length
  there : m ≤ C.length
  same : ∀ i, i < m → B.getD i 0 = C.getD i 0
section
variable {B C : List UInt8} {m : Nat}
theorem Ag.bit (h : Ag B C m) {t : Nat} (ht : t < 8 * m) : bitAt B t = bitAt C t := by unfold bitAt; rw [h.same _ (by omega)]
theorem Ag.num (h : Ag B C m) (t : Nat) : ∀ n, t + n ≤ 8 * m → numAt B n t = numAt C n t
  | 0, _ => rfl
  | n + 1, hn => by rw [numAt, numAt, h.num t n (by omega), h.bit (by omega)]
theorem Ag.symGo (h : Ag B C m) (L : List Nat) : ∀ k n c t s t', symGo L B k n c t = .ok (s, t') → t' ≤ 8 * m → 1 ≤ n → symGo L C k n c t = .ok (s, t')
  | 0, n, c, t, s, t', e, _, _ => by cases e
  | k + 1, n, c, t, s, t', e, ht, h1 => by
    have hin := symGo_in L B _ _ _ _ _ _ h1 e
    have hb := h.bit (t := t) (by omega)
    have hc := h.there
    rw [Ix.symGo] at e ⊢
    rw [if_pos (by omega)] at e ⊢
    rw [← hb]
    by_cases e2 : fst L n ≤ 2 * c + bitAt B t ∧ 2 * c + bitAt B t < beh L n
    · rw [if_pos e2] at e ⊢; exact e
    · rw [if_neg e2] at e ⊢; exact h.symGo L k _ _ _ s t' e ht (by omega)
theorem Ag.sym (h : Ag B C m) {L : List Nat} {t s t' : Nat} (e : sym L B t = .ok (s, t')) (ht : t' ≤ 8 * m) : Ix.sym L C t = .ok (s, t') := h.symGo L _ _ _ _ _ _ e ht (Nat.le_refl _)
theorem Ag.span (h : Ag B C m) {s e t v t' : Nat} (hv : spanV B s e t = .ok (v, t')) (ht : t' ≤ 8 * m) : spanV C s e t = .ok (v, t') := by
  have hc := h.there
  unfold spanV at *
  split at hv
  · injection hv with hv; injection hv with h1 h2
    rw [if_pos (by omega), ← h.num _ _ (by omega), h1, h2]
  · cases hv
theorem span_ge {B : List UInt8} {s e t v t' : Nat} (h : spanV B s e t = .ok (v, t')) : t ≤ t' := by
  unfold spanV at h
  split at h
  · injection h with h; injection h with h1 h2; omega
  · cases h
theorem Ag.len (h : Ag B C m) {s t v t' : Nat} (hv : lenV B s t = .ok (v, t')) (ht : t' ≤ 8 * m) : lenV C s t = .ok (v, t') := by
  unfold lenV at *
  by_cases e : s = 285
  · rw [if_pos e] at hv ⊢; exact hv
  · rw [if_neg e] at hv ⊢
    generalize hy : s - 257 = y at hv ⊢
    cases hs : spanV B y 4 t with
    | error k => rw [hs] at hv; cases hv
    | ok r =>
      obtain ⟨x, t1⟩ := r
      rw [hs] at hv
      simp only [Except.ok.injEq, Prod.mk.injEq] at hv
      obtain ⟨h1, h2⟩ := hv
      rw [h.span hs (by omega)]
      simp only [h1, h2]
theorem len_ge {B : List UInt8} {s t v t' : Nat} (hv : lenV B s t = .ok (v, t')) : t ≤ t' := by
  unfold lenV at hv
  by_cases e : s = 285
  · rw [if_pos e] at hv; injection hv with hv; injection hv with h1 h2; omega
  · rw [if_neg e] at hv
    generalize hy : s - 257 = y at hv
    cases hs : spanV B y 4 t with
    | error k => rw [hs] at hv; cases hv
    | ok r =>
      obtain ⟨x, t1⟩ := r
      rw [hs] at hv
      injection hv with hv; injection hv with h1 h2
      have := span_ge hs
      omega
theorem dist_parts {D : List Nat} {B : List UInt8} {t v t' : Nat} (h : distV D B t = .ok (v, t')) : ∃ s t1 x, sym D B t = .ok (s, t1) ∧ s ≤ 29 ∧ spanV B s 2 t1 = .ok (x, t') ∧ v = 1 + x := by
  unfold distV at h
  cases hs : sym D B t with
  | error k => rw [hs] at h; cases h
  | ok r =>
    obtain ⟨s, t1⟩ := r
    rw [hs] at h
    simp only at h
    by_cases e : 29 < s
    · rw [if_pos e] at h; cases h
    · rw [if_neg e] at h
      cases hx : spanV B s 2 t1 with
      | error k => rw [hx] at h; cases h
      | ok r =>
        obtain ⟨x, t2⟩ := r
        rw [hx] at h
        injection h with h; injection h with h1 h2
        exact ⟨s, t1, x, rfl, by omega, by rw [hx, h2], h1.symm⟩
theorem dist_of {D : List Nat} {B : List UInt8} {t s t1 x t' : Nat} (h1 : sym D B t = .ok (s, t1)) (h2 : s ≤ 29) (h3 : spanV B s 2 t1 = .ok (x, t')) : distV D B t = .ok (1 + x, t') := by
  unfold distV
  rw [h1]; simp only; rw [if_neg (by omega), h3]
theorem Ag.dist (h : Ag B C m) {D : List Nat} {t v t' : Nat} (hv : distV D B t = .ok (v, t')) (ht : t' ≤ 8 * m) : distV D C t = .ok (v, t') := by
  obtain ⟨s, t1, x, h1, h2, h3, rfl⟩ := dist_parts hv
  have := span_ge h3
  exact dist_of (h.sym h1 (by omega)) h2 (h.span h3 ht)
theorem dist_ge {D : List Nat} {B : List UInt8} {t v t' : Nat} (hv : distV D B t = .ok (v, t')) : t ≤ t' := by
  obtain ⟨s, t1, x, h1, h2, h3, rfl⟩ := dist_parts hv
  have a1 := span_ge h3
  have a2 := sym_in h1
  omega
/-- One symbol, and what it does. -/
inductive PStep (S D : List Nat) (B : List UInt8) (t : Nat) (out : List UInt8) : List UInt8 → Nat → Prop where
  | put (s t1 : Nat) (o : List UInt8) : sym S B t = .ok (s, t1) → s < 256 → putV' out (UInt8.ofNat s) = .ok o → PStep S D B t out o t1
  | again (s t1 n t2 back t3 : Nat) (o : List UInt8) : sym S B t = .ok (s, t1) → 256 < s → s ≤ 285 → lenV B s t1 = .ok (n, t2) → distV D B t2 = .ok (back, t3) → againV n back out = .ok o → PStep S D B t out o t3
theorem PStep.lt {S D : List Nat} {B : List UInt8} {t t' : Nat} {out o : List UInt8} (h : PStep S D B t out o t') : t < t' := by
  cases h with
  | put s t1 o h1 h2 h3 => exact (sym_in h1).2.1
  | again s t1 n t2 back t3 o h1 h2 h3 h4 h5 h6 =>
    have := (sym_in h1).2.1
    have := len_ge h4
    have := dist_ge h5
    omega
theorem PStep.go {S D : List Nat} {B : List UInt8} {t t' : Nat} {out o : List UInt8} (h : PStep S D B t out o t') (f : Nat) : pressGo S D B (f + 1) t out = pressGo S D B f t' o := by
  cases h with
  | put s t1 o h1 h2 h3 => rw [pressGo, h1]; simp only; rw [if_pos h2, h3]
  | again s t1 n t2 back t3 o h1 h2 h3 h4 h5 h6 =>
    rw [pressGo, h1]
    simp only
    rw [if_neg (by omega), if_neg (by omega), if_neg (by omega), h4]
    simp only
    rw [h5]
    simp only
    rw [h6]
theorem Ag.pstep (h : Ag B C m) {S D : List Nat} {t t' : Nat} {out o : List UInt8} (e : PStep S D B t out o t') (ht : t' ≤ 8 * m) : PStep S D C t out o t' := by
  cases e with
  | put s t1 o h1 h2 h3 => exact .put s _ o (h.sym h1 ht) h2 h3
  | again s t1 n t2 back t3 o h1 h2 h3 h4 h5 h6 =>
    have a1 := len_ge h4
    have a2 := dist_ge h5
    exact .again s t1 n t2 back _ o (h.sym h1 (by omega)) h2 h3 (h.len h4 (by omega)) (h.dist h5 ht) h6
theorem press_parts {S D : List Nat} {B : List UInt8} {f t t' : Nat} {out o : List UInt8} (h : pressGo S D B (f + 1) t out = .ok (o, t')) : (sym S B t = .ok (256, t') ∧ o = out) ∨ ∃ o1 t1, PStep S D B t out o1 t1 ∧ pressGo S D B f t1 o1 = .ok (o, t') := by
  rw [pressGo] at h
  cases hs : sym S B t with
  | error k => rw [hs] at h; cases h
  | ok r =>
    obtain ⟨s, t1⟩ := r
    rw [hs] at h
    simp only at h
    by_cases e1 : s < 256
    · rw [if_pos e1] at h
      cases hp : putV' out (UInt8.ofNat s) with
      | error k => rw [hp] at h; cases h
      | ok o1 => rw [hp] at h; exact .inr ⟨o1, t1, .put s t1 o1 hs e1 hp, h⟩
    · rw [if_neg e1] at h
      by_cases e2 : s = 256
      · rw [if_pos e2] at h
        injection h with h; injection h with h1 h2
        exact .inl ⟨by rw [e2, h2], h1.symm⟩
      · rw [if_neg e2] at h
        by_cases e3 : 285 < s
        · rw [if_pos e3] at h; cases h
        · rw [if_neg e3] at h
          cases hl : lenV B s t1 with
          | error k => rw [hl] at h; cases h
          | ok r =>
            obtain ⟨n, t2⟩ := r
            rw [hl] at h
            simp only at h
            cases hd : distV D B t2 with
            | error k => rw [hd] at h; cases h
            | ok r =>
              obtain ⟨back, t3⟩ := r
              rw [hd] at h
              simp only at h
              cases ha : againV n back out with
              | error k => rw [ha] at h; cases h
              | ok o1 =>
                rw [ha] at h
                exact .inr ⟨o1, t3, .again s t1 n t2 back t3 o1 hs (by omega) (by omega) hl hd ha, h⟩
theorem press_ge (S D : List Nat) (B : List UInt8) : ∀ f t out o t', pressGo S D B f t out = .ok (o, t') → t < t'
  | 0, t, out, o, t', h => by cases h
  | f + 1, t, out, o, t', h => by
    rcases press_parts h with ⟨h1, -⟩ | ⟨o1, t1, h1, h2⟩
    · exact (sym_in h1).2.1
    · have a1 := h1.lt
      have a2 := press_ge S D B f _ _ _ _ h2
      omega
theorem Ag.press (h : Ag B C m) {S D : List Nat} : ∀ f g t out o t', pressGo S D B f t out = .ok (o, t') → t' ≤ 8 * m → 8 * m < g + t → pressGo S D C g t out = .ok (o, t')
  | 0, g, t, out, o, t', e, _, _ => by cases e
  | f + 1, g, t, out, o, t', e, ht, hg => by
    have a1 := press_ge S D B _ _ _ _ _ e
    obtain ⟨g, rfl⟩ : ∃ x, g = x + 1 := ⟨g - 1, by omega⟩
    rcases press_parts e with ⟨h1, rfl⟩ | ⟨o1, t1, h1, h2⟩
    · rw [pressGo, h.sym h1 ht]
      simp only
      rw [if_neg (by decide), if_pos trivial]
    · have a2 := h1.lt
      have a3 := press_ge S D B _ _ _ _ _ h2
      rw [(h.pstep h1 (by omega)).go]
      exact h.press f g t1 o1 o t' h2 ht (by omega)
theorem Ag.storedGo (h : Ag B C m) : ∀ n t out o t', storedGo B n t out = .ok (o, t') → t' ≤ 8 * m → storedGo C n t out = .ok (o, t')
  | 0, t, out, o, t', e, _ => e
  | n + 1, t, out, o, t', e, ht => by
    have hc := h.there
    rw [Ix.storedGo] at e ⊢
    by_cases e1 : t / 8 = B.length
    · rw [if_pos e1] at e; cases e
    · rw [if_neg e1] at e
      cases hp : putV' out (B.getD (t / 8) 0) with
      | error k => rw [hp] at e; cases e
      | ok o1 =>
        rw [hp] at e
        simp only at e
        have := storedGo_ge B _ _ _ _ _ e
        rw [if_neg (by omega), ← h.same (t / 8) (by omega), hp]
        exact h.storedGo n _ _ _ _ e ht
theorem Ag.stored (h : Ag B C m) {t t' : Nat} {out o : List UInt8} (e : storedV B t out = .ok (o, t')) (ht : t' ≤ 8 * m) : storedV C t out = .ok (o, t') := by
  have hc := h.there
  unfold storedV at e ⊢
  by_cases e1 : up8 t + 32 ≤ 8 * B.length
  · rw [if_pos e1] at e
    by_cases e2 : numAt B 16 (up8 t) + numAt B 16 (up8 t + 16) = 65535
    · rw [if_pos e2] at e
      have := storedGo_ge B _ _ _ _ _ e
      rw [if_pos (by omega), ← h.num (up8 t) 16 (by omega), ← h.num (up8 t + 16) 16 (by omega), if_pos e2]
      exact h.storedGo _ _ _ _ _ e ht
    · rw [if_neg e2] at e; cases e
  · rw [if_neg e1] at e; cases e
theorem Ag.run (h : Ag B C m) {s t n times t' : Nat} {acc : List Nat} (e : runV B s t acc = .ok (n, times, t')) (ht : t' ≤ 8 * m) : runV C s t acc = .ok (n, times, t') := by
  have hc := h.there
  unfold runV at *
  by_cases e1 : s = 16
  · rw [if_pos e1] at e ⊢
    by_cases e2 : acc.length = 0
    · rw [if_pos e2] at e; cases e
    · rw [if_neg e2] at e ⊢
      by_cases e3 : t + 2 ≤ 8 * B.length
      · rw [if_pos e3] at e
        injection e with e; injection e with h1 h2; injection h2 with h2 h3
        rw [if_pos (by omega), ← h.num t 2 (by omega), h1, h2, h3]
      · rw [if_neg e3] at e; cases e
  · rw [if_neg e1] at e ⊢
    by_cases e2 : s = 17
    · rw [if_pos e2] at e ⊢
      by_cases e3 : t + 3 ≤ 8 * B.length
      · rw [if_pos e3] at e
        injection e with e; injection e with h1 h2; injection h2 with h2 h3
        rw [if_pos (by omega), ← h.num t 3 (by omega), h1, h2, h3]
      · rw [if_neg e3] at e; cases e
    · rw [if_neg e2] at e ⊢
      by_cases e4 : s = 18
      · rw [if_pos e4] at e ⊢
        by_cases e3 : t + 7 ≤ 8 * B.length
        · rw [if_pos e3] at e
          injection e with e; injection e with h1 h2; injection h2 with h2 h3
          rw [if_pos (by omega), ← h.num t 7 (by omega), h1, h2, h3]
        · rw [if_neg e3] at e; cases e
      · rw [if_neg e4] at e ⊢; exact e
theorem run_ge {B : List UInt8} {s t n times t' : Nat} {acc : List Nat} (e : runV B s t acc = .ok (n, times, t')) : t ≤ t' := by
  unfold runV at e
  by_cases e1 : s = 16
  · rw [if_pos e1] at e
    by_cases e2 : acc.length = 0
    · rw [if_pos e2] at e; cases e
    · rw [if_neg e2] at e
      by_cases e3 : t + 2 ≤ 8 * B.length
      · rw [if_pos e3] at e
        injection e with e; injection e with h1 h2; injection h2 with h2 h3
        omega
      · rw [if_neg e3] at e; cases e
  · rw [if_neg e1] at e
    by_cases e2 : s = 17
    · rw [if_pos e2] at e
      by_cases e3 : t + 3 ≤ 8 * B.length
      · rw [if_pos e3] at e
        injection e with e; injection e with h1 h2; injection h2 with h2 h3
        omega
      · rw [if_neg e3] at e; cases e
    · rw [if_neg e2] at e
      by_cases e4 : s = 18
      · rw [if_pos e4] at e
        by_cases e3 : t + 7 ≤ 8 * B.length
        · rw [if_pos e3] at e
          injection e with e; injection e with h1 h2; injection h2 with h2 h3
          omega
        · rw [if_neg e3] at e; cases e
      · rw [if_neg e4] at e
        injection e with e; injection e with h1 h2; injection h2 with h2 h3
        omega
theorem lens_parts {S : List Nat} {B : List UInt8} {all f t t' : Nat} {acc l : List Nat} (h : lensGo S B all (f + 1) t acc = .ok (l, t')) : (all ≤ acc.length ∧ l = acc ∧ t' = t) ∨ ∃ s t1 n times t2, acc.length < all ∧ sym S B t = .ok (s, t1) ∧ runV B s t1 acc = .ok (n, times, t2) ∧ times ≤ all - acc.length ∧ lensGo S B all f t2 (acc ++ List.replicate times n) = .ok (l, t') := by
  by_cases e : all ≤ acc.length
  · rw [lens_end e] at h
    injection h with h; injection h with h1 h2
    exact .inl ⟨e, h1.symm, h2.symm⟩
  · cases hs : sym S B t with
    | error k => rw [lens_no (by omega) hs] at h; cases h
    | ok r =>
      obtain ⟨s, t1⟩ := r
      cases hr : runV B s t1 acc with
      | error k => rw [lens_run (by omega) hs hr] at h; cases h
      | ok r =>
        obtain ⟨n, times, t2⟩ := r
        by_cases hm : all - acc.length < times
        · rw [lens_many (by omega) hs hr hm] at h; cases h
        · rw [lens_step (by omega) hs hr (by omega)] at h
          exact .inr ⟨s, t1, n, times, t2, by omega, rfl, hr, by omega, h⟩
theorem lens_ge (S : List Nat) (B : List UInt8) (all : Nat) : ∀ f t acc l t', lensGo S B all f t acc = .ok (l, t') → t ≤ t'
  | 0, t, acc, l, t', h => by cases h
  | f + 1, t, acc, l, t', h => by
    rcases lens_parts h with ⟨-, -, rfl⟩ | ⟨s, t1, n, times, t2, h1, h2, h3, h4, h5⟩
    · exact Nat.le_refl _
    · have a1 := (sym_in h2).2.1
      have a2 := run_ge h3
      have a3 := lens_ge S B all f _ _ _ _ h5
      omega
theorem Ag.lens (h : Ag B C m) (S : List Nat) (all : Nat) : ∀ f t acc l t', lensGo S B all f t acc = .ok (l, t') → t' ≤ 8 * m → lensGo S C all f t acc = .ok (l, t')
  | 0, t, acc, l, t', e, _ => by cases e
  | f + 1, t, acc, l, t', e, ht => by
    rcases lens_parts e with ⟨h1, rfl, rfl⟩ | ⟨s, t1, n, times, t2, h1, h2, h3, h4, h5⟩
    · exact lens_end h1
    · have a2 := run_ge h3
      have a3 := lens_ge S B all f _ _ _ _ h5
      rw [lens_step h1 (h.sym h2 (by omega)) (h.run h3 (by omega)) h4]
      exact h.lens S all f _ _ _ _ h5 ht
theorem Ag.shortTo (h : Ag B C m) (t : Nat) : ∀ i s, t + 3 * i ≤ 8 * m → shortTo B t i s = shortTo C t i s
  | 0, s, _ => rfl
  | i + 1, s, hi => by rw [Ix.shortTo, Ix.shortTo, h.num (t + 3 * i) 3 (by omega), h.shortTo t i s (by omega)]
theorem Ag.shortL (h : Ag B C m) (k t : Nat) (hk : t + 3 * k ≤ 8 * m) : shortL B k t = shortL C k t := by
  unfold Ix.shortL
  exact List.map_congr_left fun s _ => h.shortTo t k s hk
theorem Ag.own (h : Ag B C m) {t t' : Nat} {S D : List Nat} (e : ownV B t = .ok (S, D, t')) (ht : t' ≤ 8 * m) : ownV C t = .ok (S, D, t') := by
  have hc := h.there
  unfold ownV at e
  by_cases e1 : t + 14 ≤ 8 * B.length
  · rw [if_pos e1] at e
    by_cases e2 : 286 < numAt B 5 t + 257 ∨ 30 < numAt B 5 (t + 5) + 1
    · rw [if_pos e2] at e; cases e
    · rw [if_neg e2] at e
      by_cases e3 : t + 14 + 3 * (numAt B 4 (t + 10) + 4) ≤ 8 * B.length
      · rw [if_pos e3] at e
        by_cases e4 : isTree (Ix.shortL B (numAt B 4 (t + 10) + 4) (t + 14)) = false
        · rw [if_pos e4] at e; cases e
        · rw [if_neg e4] at e
          cases hl : lensGo (Ix.shortL B (numAt B 4 (t + 10) + 4) (t + 14)) B (numAt B 5 t + 257 + (numAt B 5 (t + 5) + 1)) (numAt B 5 t + 257 + (numAt B 5 (t + 5) + 1) + 1) (t + 14 + 3 * (numAt B 4 (t + 10) + 4)) [] with
          | error k => rw [hl] at e; cases e
          | ok r =>
            obtain ⟨l, t2⟩ := r
            rw [hl] at e
            have a1 := lens_ge _ _ _ _ _ _ _ _ hl
            have a2 : t2 = t' := by
              unfold ownEnd at e
              simp only at e
              split at e
              · cases e
              · split at e
                · cases e
                · split at e
                  · cases e
                  · injection e with e; injection e with x1 x2; injection x2 with x2 x3
            have hl2 := h.lens _ _ _ _ _ _ _ hl (by omega)
            rw [h.shortL _ _ (by omega)] at hl2 e4
            unfold ownV
            rw [← h.num t 5 (by omega), ← h.num (t + 5) 5 (by omega), ← h.num (t + 10) 4 (by omega), if_pos (by omega), if_neg e2, if_pos (by omega), if_neg e4, hl2]
            exact e
      · rw [if_neg e3] at e; cases e
  · rw [if_neg e1] at e; cases e
theorem Ag.kind (h : Ag B C m) {k t t' : Nat} {out o : List UInt8} (e : kindV k B t out = .ok (o, t')) (ht : t' ≤ 8 * m) : kindV k C t out = .ok (o, t') := by
  have hc := h.there
  unfold kindV at *
  by_cases e1 : k = 0
  · rw [if_pos e1] at e ⊢; exact h.stored e ht
  · rw [if_neg e1] at e ⊢
    by_cases e2 : k = 1
    · rw [if_pos e2] at e ⊢; exact h.press _ _ _ _ _ _ e ht (by omega)
    · rw [if_neg e2] at e ⊢
      by_cases e3 : k = 2
      · rw [if_pos e3] at e ⊢
        cases ho : ownV B t with
        | error k => rw [ho] at e; cases e
        | ok r =>
          obtain ⟨S, D, t1⟩ := r
          rw [ho, ownBlkV] at e
          have := press_ge S D B _ _ _ _ _ e
          rw [h.own ho (by omega), ownBlkV]
          exact h.press _ _ _ _ _ _ e ht (by omega)
      · rw [if_neg e3] at e; cases e
theorem kind_ge {B : List UInt8} {k t t' : Nat} {out o : List UInt8} (e : kindV k B t out = .ok (o, t')) : t ≤ t' := by
  unfold kindV at e
  by_cases e1 : k = 0
  · rw [if_pos e1] at e
    unfold storedV at e
    split at e
    · split at e
      · have := storedGo_ge B _ _ _ _ _ e; unfold up8 at this; omega
      · cases e
    · cases e
  · rw [if_neg e1] at e
    by_cases e2 : k = 1
    · rw [if_pos e2] at e
      have := press_ge _ _ _ _ _ _ _ _ e; omega
    · rw [if_neg e2] at e
      by_cases e3 : k = 2
      · rw [if_pos e3] at e
        cases ho : ownV B t with
        | error k => rw [ho] at e; cases e
        | ok r =>
          obtain ⟨S, D, t1⟩ := r
          rw [ho, ownBlkV] at e
          have := press_ge S D B _ _ _ _ _ e
          have a := ownV_ok ho
          omega
      · rw [if_neg e3] at e; cases e
theorem block_parts {B : List UInt8} {t t' : Nat} {out o : List UInt8} {last : Bool} (h : blockV B t out = .ok (last, o, t')) : t + 3 ≤ 8 * B.length ∧ last = (bitAt B t == 1) ∧ kindV (numAt B 2 (t + 1)) B (t + 3) out = .ok (o, t') := by
  unfold blockV at h
  by_cases e : t + 3 ≤ 8 * B.length
  · rw [if_pos e] at h
    cases hk : kindV (numAt B 2 (t + 1)) B (t + 3) out with
    | error k => rw [hk] at h; cases h
    | ok r =>
      obtain ⟨o1, t1⟩ := r
      rw [hk] at h
      injection h with h; injection h with h1 h2; injection h2 with h2 h3
      exact ⟨e, h1.symm, by rw [h2, h3]⟩
  · rw [if_neg e] at h; cases h
theorem block_gt {B : List UInt8} {t t' : Nat} {out o : List UInt8} {last : Bool} (h : blockV B t out = .ok (last, o, t')) : t + 3 ≤ t' := kind_ge (block_parts h).2.2
theorem Ag.block (h : Ag B C m) {t t' : Nat} {out o : List UInt8} {last : Bool} (e : blockV B t out = .ok (last, o, t')) (ht : t' ≤ 8 * m) : blockV C t out = .ok (last, o, t') := by
  have hc := h.there
  have hg := block_gt e
  obtain ⟨h1, h2, h3⟩ := block_parts e
  unfold blockV
  rw [if_pos (by omega), ← h.num (t + 1) 2 (by omega), ← h.bit (t := t) (by omega), h.kind h3 ht, h2]; rfl
theorem rawGo_ge (B : List UInt8) : ∀ f t out o n, rawGo B f t out = .ok (o, n) → t + 3 ≤ 8 * n
  | 0, t, out, o, n, h => by cases h
  | f + 1, t, out, o, n, h => by
    cases hb : blockV B t out with
    | error k => rw [raw_no hb] at h; cases h
    | ok r =>
      obtain ⟨last, o1, t1⟩ := r
      have := block_gt hb
      cases last with
      | true => rw [raw_last hb] at h; injection h with h; injection h with h1 h2; omega
      | false => rw [raw_more hb] at h; have := rawGo_ge B f _ _ _ _ h; omega
theorem Ag.rawGo (h : Ag B C m) : ∀ f g t out o n, rawGo B f t out = .ok (o, n) → n ≤ m → 8 * m < g + t → rawGo C g t out = .ok (o, n)
  | 0, g, t, out, o, n, e, _, _ => by cases e
  | f + 1, g, t, out, o, n, e, hn, hg => by
    have a0 := rawGo_ge B _ _ _ _ _ e
    obtain ⟨g, rfl⟩ : ∃ x, g = x + 1 := ⟨g - 1, by omega⟩
    cases hb : blockV B t out with
    | error k => rw [raw_no hb] at e; cases e
    | ok r =>
      obtain ⟨last, o1, t1⟩ := r
      have a1 := block_gt hb
      cases last with
      | true =>
        rw [raw_last hb] at e
        injection e with e; injection e with h1 h2
        rw [raw_last (h.block hb (by omega)), h1, h2]
      | false =>
        rw [raw_more hb] at e
        have a2 := rawGo_ge B f _ _ _ _ e
        rw [raw_more (h.block hb (by omega))]
        exact h.rawGo f g t1 o1 o n e hn (by omega)
theorem Ag.raw (h : Ag B C m) {o : List UInt8} {n : Nat} (e : rawV B = .ok (o, n)) (hn : n ≤ m) : rawV C = .ok (o, n) := by
  have hc := h.there
  exact h.rawGo _ _ _ _ _ _ e hn (by omega)
end
theorem getD_take (B : List UInt8) (n i : Nat) (h : i < n) : (B.take n).getD i 0 = B.getD i 0 := by
  simp only [List.getD, List.getElem?_take, if_pos h]
theorem getD_app (B M : List UInt8) (i : Nat) (h : i < B.length) : (B ++ M).getD i 0 = B.getD i 0 := by
  simp only [List.getD, List.getElem?_append_left h]
theorem zlib_parts {B o : List UInt8} {n : Nat} (h : zlibV B = .ok (o, n)) : 2 ≤ B.length ∧ headV (B.getD 0 0) (B.getD 1 0) = true ∧ ∃ k, n = k + 6 ∧ rawV (B.drop 2) = .ok (o, k) ∧ k + 6 ≤ B.length ∧ sumV ((B.drop 2).drop k) = adler o := by
  unfold zlibV at h
  by_cases e1 : B.length < 2
  · rw [if_pos e1] at h; cases h
  · rw [if_neg e1] at h
    by_cases e2 : headV (B.getD 0 0) (B.getD 1 0) = false
    · rw [if_pos e2] at h; cases h
    · rw [if_neg e2] at h
      cases hr : rawV (B.drop 2) with
      | error k => rw [hr] at h; cases h
      | ok r =>
        obtain ⟨o1, k⟩ := r
        rw [hr, tailV] at h
        by_cases e3 : B.length - 2 - k < 4
        · rw [if_pos e3] at h; cases h
        · rw [if_neg e3] at h
          by_cases e4 : sumV ((B.drop 2).drop k) = adler o1
          · rw [if_pos e4] at h
            injection h with h; injection h with h1 h2
            subst h1
            exact ⟨by omega, by simpa using e2, k, h2.symm, rfl, by omega, e4⟩
          · rw [if_neg e4] at h; cases h
theorem zlib_of {B o : List UInt8} {k : Nat} (h1 : 2 ≤ B.length) (h2 : headV (B.getD 0 0) (B.getD 1 0) = true) (h3 : rawV (B.drop 2) = .ok (o, k)) (h4 : k + 6 ≤ B.length) (h5 : sumV ((B.drop 2).drop k) = adler o) : zlibV B = .ok (o, k + 6) := by
  unfold zlibV
  rw [if_neg (by omega), if_neg (by rw [h2]; simp), h3, tailV, if_neg (by omega), if_pos h5]
theorem zlib_cut {B o : List UInt8} {k : Nat} (h1 : 2 ≤ B.length) (h2 : headV (B.getD 0 0) (B.getD 1 0) = true) (h3 : rawV (B.drop 2) = .ok (o, k)) (h4 : B.length < k + 6) : zlibV B = .error 4 := by
  unfold zlibV
  rw [if_neg (by omega), if_neg (by rw [h2]; simp), h3, tailV, if_pos (by omega)]
/-- As long as it is told, whatever stands behind. -/
theorem zlib_behind {B o : List UInt8} {n : Nat} (h : zlibV B = .ok (o, n)) : 6 ≤ n ∧ n ≤ B.length ∧ (∀ M, zlibV (B.take n ++ M) = .ok (o, n)) ∧ zlibV (B.take (n - 1)) = .error 4 := by
  obtain ⟨h1, h2, k, rfl, h4, h5, h6⟩ := zlib_parts h
  refine ⟨by omega, h5, fun M => ?_, ?_⟩
  · have hl : (B.take (k + 6)).length = k + 6 := by rw [List.length_take]; omega
    have hd : (B.take (k + 6) ++ M).drop 2 = (B.drop 2).take (k + 4) ++ M := by
      rw [List.drop_append_of_le_length (by omega), List.drop_take]
      rfl
    have hl2 : ((B.drop 2).take (k + 4)).length = k + 4 := by rw [List.length_take, List.length_drop]; omega
    have g := fun i (hi : i < k + 6) => (getD_app (B.take (k + 6)) M i (by omega)).trans (getD_take B (k + 6) i hi)
    refine zlib_of (by rw [List.length_append]; omega) (by rw [g 0 (by omega), g 1 (by omega)]; exact h2) ?_ (by rw [List.length_append]; omega) ?_
    · rw [hd]
      refine Ag.raw (m := k + 4) ⟨by rw [List.length_drop]; omega, by rw [List.length_append]; omega, fun i hi => ?_⟩ h4 (by omega)
      rw [getD_app _ _ _ (by omega), getD_take _ _ _ hi]
    · rw [hd, List.drop_append_of_le_length (by omega), List.drop_take]
      have e4 : (((B.drop 2).drop k).take (k + 4 - k)).length = 4 := by rw [List.length_take, List.length_drop, List.length_drop]; omega
      have : sumV (((B.drop 2).drop k).take (k + 4 - k) ++ M) = sumV ((B.drop 2).drop k) := by
        unfold sumV
        rw [List.take_append_of_le_length (by omega), List.take_take]
        congr 2
        omega
      rw [this]; exact h6
  · have hl : (B.take (k + 6 - 1)).length = k + 5 := by rw [List.length_take]; omega
    have g := fun i (hi : i < k + 6 - 1) => getD_take B (k + 6 - 1) i hi
    refine zlib_cut (k := k) (o := o) (by omega) (by rw [g 0 (by omega), g 1 (by omega)]; exact h2) ?_ (by omega)
    rw [List.drop_take]
    refine Ag.raw (m := k + 3) ⟨by rw [List.length_drop]; omega, by rw [List.length_take, List.length_drop]; omega, fun i hi => ?_⟩ h4 (by omega)
    rw [getD_take _ _ _ (by omega)]

end Go.Proofs.YtkobcgemllcfoaaDoor.Ix
