/-
  A block's own trees, as functions on lists.
-/
import Derived.Test.YtpplboihlndfpaaInfMath
import Derived.Test.YtpplboihlndfpaaInfSumsMath
namespace Go.Proofs.Ytpplboihlndfpaa.Ix
set_option linter.unusedSimpArgs false
set_option linter.unusedVariables false

/-- In which order the lengths of the tree stand by which the others are told. -/
def ordL : List Nat := [16, 17, 18, 0, 8, 7, 9, 6, 10, 5, 11, 4, 12, 3, 13, 2, 14, 1, 15]
/-- When i of them are told. -/
def shortTo (B : List UInt8) (t : Nat) : Nat → Nat → Nat
  | 0, _ => 0
  | i + 1, s => if s = ordL.getD i 0 then numAt B 3 (t + 3 * i) else shortTo B t i s
def shortL (B : List UInt8) (k t : Nat) : List Nat := (List.range 19).map (shortTo B t k)
/-- A length, and how many times. -/
def runV (B : List UInt8) (s t : Nat) (acc : List Nat) : Except Int (Nat × Nat × Nat) :=
  if s = 16 then (if acc.length = 0 then .error 3 else if t + 2 ≤ 8 * B.length then .ok (acc.getD (acc.length - 1) 0, 3 + numAt B 2 t, t + 2) else .error 4)
  else if s = 17 then (if t + 3 ≤ 8 * B.length then .ok (0, 3 + numAt B 3 t, t + 3) else .error 4)
  else if s = 18 then (if t + 7 ≤ 8 * B.length then .ok (0, 11 + numAt B 7 t, t + 7) else .error 4)
  else .ok (s, 1, t)
def lensGo (S : List Nat) (B : List UInt8) (all : Nat) : Nat → Nat → List Nat → Except Int (List Nat × Nat)
  | 0, _, _ => .error 0
  | f + 1, t, acc => if all ≤ acc.length then .ok (acc, t) else match sym S B t with
    | .error e => .error e
    | .ok (s, t1) => match runV B s t1 acc with
      | .error e => .error e
      | .ok (n, times, t2) => if all - acc.length < times then .error 3 else lensGo S B all f t2 (acc ++ List.replicate times n)
/-- What is told of so many lengths, as trees. -/
def ownEnd (n : Nat) : Except Int (List Nat × Nat) → Except Int (List Nat × List Nat × Nat)
  | .error e => .error e
  | .ok (l, t') => if l.getD 256 0 = 0 then .error 3 else if isTree (l.take n) = false then .error 3 else if isTree (l.drop n) = false then .error 3 else .ok (l.take n, l.drop n, t')
def ownV (B : List UInt8) (t : Nat) : Except Int (List Nat × List Nat × Nat) :=
  if t + 14 ≤ 8 * B.length then
    if 286 < numAt B 5 t + 257 ∨ 30 < numAt B 5 (t + 5) + 1 then .error 3
    else if t + 14 + 3 * (numAt B 4 (t + 10) + 4) ≤ 8 * B.length then
      if isTree (shortL B (numAt B 4 (t + 10) + 4) (t + 14)) = false then .error 3
      else ownEnd (numAt B 5 t + 257) (lensGo (shortL B (numAt B 4 (t + 10) + 4) (t + 14)) B (numAt B 5 t + 257 + (numAt B 5 (t + 5) + 1)) (numAt B 5 t + 257 + (numAt B 5 (t + 5) + 1) + 1) (t + 14 + 3 * (numAt B 4 (t + 10) + 4)) [])
    else .error 4
  else .error 4

theorem symGo_in (L : List Nat) (B : List UInt8) : ∀ k n c t s t', 1 ≤ n → symGo L B k n c t = .ok (s, t') → s < L.length ∧ t < t' ∧ t' ≤ 8 * B.length
  | 0, n, c, t, s, t', _, h => by cases h
  | k + 1, n, c, t, s, t', h1, h => by
    rw [symGo] at h
    by_cases e : t < 8 * B.length
    · rw [if_pos e] at h
      by_cases e2 : fst L n ≤ 2 * c + bitAt B t ∧ 2 * c + bitAt B t < beh L n
      · rw [if_pos e2] at h
        injection h with h
        injection h with h3 h4
        have hp := pos_len L n
        obtain ⟨m, rfl⟩ : ∃ m, n = m + 1 := ⟨n - 1, by omega⟩
        rw [beh_succ] at e2
        have hi : 2 * c + bitAt B t - fst L (m + 1) < (pos L (m + 1)).length := by omega
        have hm : (pos L (m + 1)).getD (2 * c + bitAt B t - fst L (m + 1)) 0 ∈ pos L (m + 1) := by
          simp only [List.getD, List.getElem?_eq_getElem hi, Option.getD_some]
          exact List.getElem_mem hi
        rw [h3] at hm
        unfold pos at hm
        rw [List.mem_filter, List.mem_range] at hm
        exact ⟨hm.1, by omega, by omega⟩
      · rw [if_neg e2] at h
        have := symGo_in L B k (n + 1) _ _ s t' (by omega) h
        exact ⟨this.1, by omega, this.2.2⟩
    · rw [if_neg e] at h; cases h
theorem sym_in {L : List Nat} {B : List UInt8} {t s t' : Nat} (h : sym L B t = .ok (s, t')) : s < L.length ∧ t < t' ∧ t' ≤ 8 * B.length := symGo_in L B _ _ _ _ _ _ (Nat.le_refl _) h
theorem shortL_len (B : List UInt8) (k t : Nat) : (shortL B k t).length = 19 := by simp [shortL]
theorem shortTo_lt (B : List UInt8) (t : Nat) : ∀ i s, shortTo B t i s < 8
  | 0, s => by simp [shortTo]
  | i + 1, s => by
    rw [shortTo]
    split
    · exact numAt_lt B _ 3
    · exact shortTo_lt B t i s
theorem shortL_le (B : List UInt8) (k t : Nat) : ∀ x ∈ shortL B k t, x ≤ 15 := by
  intro x hx
  unfold shortL at hx
  rw [List.mem_map] at hx
  obtain ⟨s, -, rfl⟩ := hx
  have := shortTo_lt B t k s
  omega
theorem shortL_get (B : List UInt8) (k t s : Nat) (h : s < 19) : (shortL B k t)[s]'(by rw [shortL_len]; exact h) = shortTo B t k s := by simp [shortL]
theorem runV_ok {B : List UInt8} {s t n times t' : Nat} {acc : List Nat} (h : runV B s t acc = .ok (n, times, t')) (hs : s < 19) (ha : ∀ x ∈ acc, x ≤ 15) (ht : t ≤ 8 * B.length) : n ≤ 15 ∧ 1 ≤ times ∧ times ≤ 138 ∧ t ≤ t' ∧ t' ≤ 8 * B.length := by
  unfold runV at h
  have b2 := numAt_lt B t 2
  have b3 := numAt_lt B t 3
  have b7 := numAt_lt B t 7
  by_cases e1 : s = 16
  · rw [if_pos e1] at h
    by_cases e2 : acc.length = 0
    · rw [if_pos e2] at h; cases h
    · rw [if_neg e2] at h
      by_cases e3 : t + 2 ≤ 8 * B.length
      · rw [if_pos e3] at h
        injection h with h; injection h with h1 h2; injection h2 with h2 h3
        have hm : acc.getD (acc.length - 1) 0 ∈ acc := by
          rw [List.getD_eq_getElem?_getD, List.getElem?_eq_getElem (by omega), Option.getD_some]
          exact List.getElem_mem _
        have := ha _ hm
        omega
      · rw [if_neg e3] at h; cases h
  · rw [if_neg e1] at h
    by_cases e2 : s = 17
    · rw [if_pos e2] at h
      by_cases e3 : t + 3 ≤ 8 * B.length
      · rw [if_pos e3] at h
        injection h with h; injection h with h1 h2; injection h2 with h2 h3
        omega
      · rw [if_neg e3] at h; cases h
    · rw [if_neg e2] at h
      by_cases e4 : s = 18
      · rw [if_pos e4] at h
        by_cases e3 : t + 7 ≤ 8 * B.length
        · rw [if_pos e3] at h
          injection h with h; injection h with h1 h2; injection h2 with h2 h3
          omega
        · rw [if_neg e3] at h; cases h
      · rw [if_neg e4] at h
        injection h with h; injection h with h1 h2; injection h2 with h2 h3
        omega
theorem lensGo_succ (S : List Nat) (B : List UInt8) (all f t : Nat) (acc : List Nat) : lensGo S B all (f + 1) t acc = if all ≤ acc.length then .ok (acc, t) else match sym S B t with
    | .error e => .error e
    | .ok (s, t1) => match runV B s t1 acc with
      | .error e => .error e
      | .ok (n, times, t2) => if all - acc.length < times then .error 3 else lensGo S B all f t2 (acc ++ List.replicate times n) := rfl
theorem lens_end {S : List Nat} {B : List UInt8} {all f t : Nat} {acc : List Nat} (h : all ≤ acc.length) : lensGo S B all (f + 1) t acc = .ok (acc, t) := by rw [lensGo_succ, if_pos h]
theorem lens_no {S : List Nat} {B : List UInt8} {all f t : Nat} {acc : List Nat} {k : Int} (h : acc.length < all) (hs : sym S B t = .error k) : lensGo S B all (f + 1) t acc = .error k := by rw [lensGo_succ, if_neg (by omega), hs]
theorem lens_run {S : List Nat} {B : List UInt8} {all f t s t1 : Nat} {acc : List Nat} {k : Int} (h : acc.length < all) (hs : sym S B t = .ok (s, t1)) (hr : runV B s t1 acc = .error k) : lensGo S B all (f + 1) t acc = .error k := by
  rw [lensGo_succ, if_neg (by omega), hs]; simp only [hr]
theorem lens_many {S : List Nat} {B : List UInt8} {all f t s t1 n times t2 : Nat} {acc : List Nat} (h : acc.length < all) (hs : sym S B t = .ok (s, t1)) (hr : runV B s t1 acc = .ok (n, times, t2)) (hm : all - acc.length < times) : lensGo S B all (f + 1) t acc = .error 3 := by
  rw [lensGo_succ, if_neg (by omega), hs]; simp only [hr]; rw [if_pos hm]
theorem lens_step {S : List Nat} {B : List UInt8} {all f t s t1 n times t2 : Nat} {acc : List Nat} (h : acc.length < all) (hs : sym S B t = .ok (s, t1)) (hr : runV B s t1 acc = .ok (n, times, t2)) (hm : times ≤ all - acc.length) : lensGo S B all (f + 1) t acc = lensGo S B all f t2 (acc ++ List.replicate times n) := by
  rw [lensGo_succ, if_neg (by omega), hs]; simp only [hr]; rw [if_neg (by omega)]
theorem lensGo_ok (S : List Nat) (B : List UInt8) (all : Nat) (hS : S.length = 19) : ∀ f t acc l t', lensGo S B all f t acc = .ok (l, t') → acc.length ≤ all → (∀ x ∈ acc, x ≤ 15) → t ≤ 8 * B.length → l.length = all ∧ (∀ x ∈ l, x ≤ 15) ∧ t ≤ t' ∧ t' ≤ 8 * B.length
  | 0, t, acc, l, t', h, _, _, _ => by cases h
  | f + 1, t, acc, l, t', h, hl, hx, ht => by
    by_cases e : all ≤ acc.length
    · rw [lens_end e] at h
      injection h with h; injection h with h1 h2
      subst h1 h2
      exact ⟨by omega, hx, Nat.le_refl _, ht⟩
    · cases hs : sym S B t with
      | error k => rw [lens_no (by omega) hs] at h; cases h
      | ok r =>
        obtain ⟨s, t1⟩ := r
        obtain ⟨i1, i2, i3⟩ := sym_in hs
        cases hr : runV B s t1 acc with
        | error k => rw [lens_run (by omega) hs hr] at h; cases h
        | ok r =>
          obtain ⟨n, times, t2⟩ := r
          obtain ⟨j1, j2, j3, j4, j5⟩ := runV_ok hr (by omega) hx i3
          by_cases hm : all - acc.length < times
          · rw [lens_many (by omega) hs hr hm] at h; cases h
          · rw [lens_step (by omega) hs hr (by omega)] at h
            have := lensGo_ok S B all hS f t2 _ l t' h (by rw [List.length_append, List.length_replicate]; omega) (by
              intro x hx2
              rw [List.mem_append, List.mem_replicate] at hx2
              rcases hx2 with h2 | ⟨-, h2⟩
              · exact hx x h2
              · omega) j5
            exact ⟨this.1, this.2.1, by omega, this.2.2.2⟩
/-- Enough is enough. -/
theorem lensGo_no0 (S : List Nat) (B : List UInt8) (all : Nat) (hS : S.length = 19) : ∀ f t acc, all < acc.length + f → acc.length ≤ all → (∀ x ∈ acc, x ≤ 15) → t ≤ 8 * B.length → lensGo S B all f t acc = .error 0 → False
  | 0, t, acc, h1, h2, _, _, _ => by omega
  | f + 1, t, acc, h1, h2, hx, ht, h => by
    by_cases e : all ≤ acc.length
    · rw [lens_end e] at h; cases h
    · cases hs : sym S B t with
      | error k =>
        rw [lens_no (by omega) hs] at h
        injection h with h
        subst h
        exact absurd hs (by
          unfold sym
          intro h
          exact sym0 S B 15 1 0 t h)
      | ok r =>
        obtain ⟨s, t1⟩ := r
        obtain ⟨i1, i2, i3⟩ := sym_in hs
        cases hr : runV B s t1 acc with
        | error k =>
          rw [lens_run (by omega) hs hr] at h
          injection h with h
          subst h
          unfold runV at hr
          repeat (first | split at hr | cases hr)
        | ok r =>
          obtain ⟨n, times, t2⟩ := r
          obtain ⟨j1, j2, j3, j4, j5⟩ := runV_ok hr (by omega) hx i3
          by_cases hm : all - acc.length < times
          · rw [lens_many (by omega) hs hr hm] at h; cases h
          · rw [lens_step (by omega) hs hr (by omega)] at h
            exact lensGo_no0 S B all hS f t2 _ (by rw [List.length_append, List.length_replicate]; omega) (by rw [List.length_append, List.length_replicate]; omega) (by
              intro x hx2
              rw [List.mem_append, List.mem_replicate] at hx2
              rcases hx2 with h2 | ⟨-, h2⟩
              · exact hx x h2
              · omega) j5 h
where sym0 (S : List Nat) (B : List UInt8) : ∀ k n c t, symGo S B k n c t = .error 0 → False
  | 0, n, c, t, h => by cases h
  | k + 1, n, c, t, h => by
    rw [symGo] at h
    split at h
    · split at h
      · cases h
      · exact sym0 S B k _ _ _ h
    · cases h
theorem ownV_ok {B : List UInt8} {t t' : Nat} {S D : List Nat} (h : ownV B t = .ok (S, D, t')) : S.length ≤ 286 ∧ 257 ≤ S.length ∧ D.length ≤ 30 ∧ 1 ≤ D.length ∧ (∀ x ∈ S, x ≤ 15) ∧ (∀ x ∈ D, x ≤ 15) ∧ isTree S = true ∧ isTree D = true ∧ t < t' ∧ t' ≤ 8 * B.length := by
  unfold ownV at h
  by_cases e1 : t + 14 ≤ 8 * B.length
  · rw [if_pos e1] at h
    by_cases e2 : 286 < numAt B 5 t + 257 ∨ 30 < numAt B 5 (t + 5) + 1
    · rw [if_pos e2] at h; cases h
    · rw [if_neg e2] at h
      by_cases e3 : t + 14 + 3 * (numAt B 4 (t + 10) + 4) ≤ 8 * B.length
      · rw [if_pos e3] at h
        by_cases e4 : isTree (shortL B (numAt B 4 (t + 10) + 4) (t + 14)) = false
        · rw [if_pos e4] at h; cases h
        · rw [if_neg e4] at h
          cases hl : lensGo (shortL B (numAt B 4 (t + 10) + 4) (t + 14)) B (numAt B 5 t + 257 + (numAt B 5 (t + 5) + 1)) (numAt B 5 t + 257 + (numAt B 5 (t + 5) + 1) + 1) (t + 14 + 3 * (numAt B 4 (t + 10) + 4)) [] with
          | error k => rw [hl] at h; cases h
          | ok r =>
            obtain ⟨l, t2⟩ := r
            rw [hl, ownEnd] at h
            obtain ⟨k1, k2, k3, k4⟩ := lensGo_ok _ B _ (shortL_len B _ _) _ _ _ _ _ hl (Nat.zero_le _) (by simp) e3
            by_cases f1 : l.getD 256 0 = 0
            · rw [if_pos f1] at h; cases h
            · rw [if_neg f1] at h
              by_cases f2 : isTree (l.take (numAt B 5 t + 257)) = false
              · rw [if_pos f2] at h; cases h
              · rw [if_neg f2] at h
                by_cases f3 : isTree (l.drop (numAt B 5 t + 257)) = false
                · rw [if_pos f3] at h; cases h
                · rw [if_neg f3] at h
                  injection h with h
                  injection h with h1 h2
                  injection h2 with h2 h3
                  have g2 : isTree S = true := by
                    rw [← h1]; cases hh : isTree (l.take (numAt B 5 t + 257)) with
                    | false => exact absurd hh f2
                    | true => rfl
                  have g3 : isTree D = true := by
                    rw [← h2]; cases hh : isTree (l.drop (numAt B 5 t + 257)) with
                    | false => exact absurd hh f3
                    | true => rfl
                  subst h1 h2 h3
                  rw [List.length_take, List.length_drop]
                  exact ⟨by omega, by omega, by omega, by omega, fun x hx => k2 x (List.mem_of_mem_take hx), fun x hx => k2 x (List.mem_of_mem_drop hx), g2, g3, by omega, k4⟩
      · rw [if_neg e3] at h; cases h
  · rw [if_neg e1] at h; cases h

end Go.Proofs.Ytpplboihlndfpaa.Ix
