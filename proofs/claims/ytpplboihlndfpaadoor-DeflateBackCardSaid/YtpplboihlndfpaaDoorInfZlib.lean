/-
  Blocks with a head and a sum: Zlib.
-/
import Derived.Test.YtpplboihlndfpaaDoorInfHead
import Derived.Deep.RegionHeld3
namespace Go.Proofs.YtpplboihlndfpaaDoor
open Go.RowKit Ix
set_option linter.unusedSimpArgs false
set_option linter.unusedVariables false

theorem symGo_le (L : List Nat) (B : List UInt8) : ∀ k n c t s t', symGo L B k n c t = .ok (s, t') → t' ≤ 8 * B.length := by
  intro k
  induction k with
  | zero => intro n c t s t' h; cases h
  | succ k ih =>
    intro n c t s t' h
    rw [symGo_step] at h
    split at h
    · split at h
      · injection h with h; injection h with h1 h2; omega
      · exact ih _ _ _ _ _ h
    · cases h
theorem spanV_to {B : List UInt8} {s e t v t' : Nat} (h : spanV B s e t = .ok (v, t')) : t' ≤ 8 * B.length := by
  unfold spanV at h
  split at h
  · injection h with h; injection h with h1 h2; omega
  · cases h
theorem lenV_to {B : List UInt8} {s t v t' : Nat} (ht : t ≤ 8 * B.length) (h : lenV B s t = .ok (v, t')) : t' ≤ 8 * B.length := by
  unfold lenV at h
  split at h
  · injection h with h; injection h with h1 h2; omega
  · split at h
    · cases h
    · rename_i hr
      injection h with h; injection h with h1 h2
      have := spanV_to hr; omega
theorem distV_to {D : List Nat} {B : List UInt8} {t v t' : Nat} (h : distV D B t = .ok (v, t')) : t' ≤ 8 * B.length := by
  unfold distV at h
  split at h
  · cases h
  · split at h
    · cases h
    · split at h
      · cases h
      · rename_i hr2
        injection h with h; injection h with h1 h2
        have := spanV_to hr2; omega
theorem pressGo_to (S D : List Nat) (B : List UInt8) : ∀ f t out o t', pressGo S D B f t out = .ok (o, t') → t' ≤ 8 * B.length := by
  intro f
  induction f with
  | zero => intro t out o t' h; cases h
  | succ f ih =>
    intro t out o t' h
    rw [pressGo] at h
    split at h
    · cases h
    · rename_i s t1 h1
      have a1 := symGo_le _ _ _ _ _ _ _ _ h1
      split at h
      · split at h
        · cases h
        · exact ih _ _ _ _ h
      · split at h
        · injection h with h; injection h with h2 h3; omega
        · split at h
          · cases h
          · split at h
            · cases h
            · split at h
              · cases h
              · split at h
                · cases h
                · exact ih _ _ _ _ h
theorem storedGo_to (B : List UInt8) : ∀ n t out o t', t % 8 = 0 → t ≤ 8 * B.length → storedGo B n t out = .ok (o, t') → t' ≤ 8 * B.length
  | 0, t, out, o, t', _, hl, h => by injection h with h; injection h with h1 h2; omega
  | n + 1, t, out, o, t', h8, hl, h => by
    rw [storedGo] at h
    split at h
    · cases h
    · split at h
      · cases h
      · exact storedGo_to B n _ _ _ _ (by omega) (by omega) h
theorem block_to {B : List UInt8} {t t' : Nat} {out o : List UInt8} {last : Bool} (h : blockV B t out = .ok (last, o, t')) : t' ≤ 8 * B.length := by
  unfold blockV at h
  split at h
  · have key : ∀ o t', kindV (numAt B 2 (t + 1)) B (t + 3) out = .ok (o, t') → t' ≤ 8 * B.length := by
      intro o t' h
      unfold kindV at h
      split at h
      · unfold storedV at h
        split at h
        · split at h
          · exact storedGo_to B _ _ _ _ _ (by unfold up8; omega) (by omega) h
          · cases h
        · cases h
      · split at h
        · exact pressGo_to _ _ _ _ _ _ _ _ h
        · split at h
          · cases ho : ownV B (t + 3) with
            | error k => rw [ho] at h; cases h
            | ok r =>
              obtain ⟨S, D, t1⟩ := r
              rw [ho, ownBlkV] at h
              exact pressGo_to _ _ _ _ _ _ _ _ h
          · cases h
    cases hk : kindV (numAt B 2 (t + 1)) B (t + 3) out with
    | error k => rw [hk] at h; cases h
    | ok x =>
      obtain ⟨o1, t1⟩ := x
      rw [hk] at h
      injection h with h
      have := key _ _ hk
      injection h with h1 h2
      injection h2 with h2 h3
      omega
  · cases h
theorem rawGo_to (B : List UInt8) : ∀ f t out o n, rawGo B f t out = .ok (o, n) → n ≤ B.length := by
  intro f
  induction f with
  | zero => intro t out o n h; cases h
  | succ f ih =>
    intro t out o n h
    rw [rawGo_succ] at h
    split at h
    · cases h
    · rename_i last o1 t1 hb
      split at h
      · injection h with h; injection h with h1 h2
        have := block_to hb; omega
      · exact ih _ _ _ _ h

def Bad (k : Int) : Prop := k = 3 ∨ k = 4 ∨ k = 6 ∨ k = 99
theorem symGo_err (L : List Nat) (B : List UInt8) : ∀ k n c t e, symGo L B k n c t = .error e → Bad e := by
  intro k
  induction k with
  | zero => intro n c t e h; injection h with h; exact .inl h.symm
  | succ k ih =>
    intro n c t e h
    rw [symGo_step] at h
    split at h
    · split at h
      · cases h
      · exact ih _ _ _ _ h
    · injection h with h; exact .inr (.inl h.symm)
theorem spanV_err {B : List UInt8} {s e t : Nat} {k : Int} (h : spanV B s e t = .error k) : Bad k := by
  unfold spanV at h
  split at h
  · cases h
  · injection h with h; exact .inr (.inl h.symm)
theorem lenV_err {B : List UInt8} {s t : Nat} {k : Int} (h : lenV B s t = .error k) : Bad k := by
  unfold lenV at h
  split at h
  · cases h
  · split at h
    · rename_i hr
      injection h with h; subst h; exact spanV_err hr
    · cases h
theorem distV_err {D : List Nat} {B : List UInt8} {t : Nat} {k : Int} (h : distV D B t = .error k) : Bad k := by
  unfold distV at h
  split at h
  · rename_i hr
    injection h with h; subst h; exact symGo_err _ _ _ _ _ _ _ hr
  · split at h
    · injection h with h; exact .inl h.symm
    · split at h
      · rename_i hr
        injection h with h; subst h; exact spanV_err hr
      · cases h
theorem putV'_err {out : List UInt8} {v : UInt8} {k : Int} (h : putV' out v = .error k) : Bad k := by
  unfold putV' at h
  split at h
  · injection h with h; exact .inr (.inr (.inl h.symm))
  · cases h
theorem againGo_err (back : Nat) : ∀ n out k, againGo back n out = .error k → Bad k
  | 0, out, k, h => by cases h
  | n + 1, out, k, h => by
    rw [againGo] at h
    split at h
    · rename_i hr
      injection h with h; subst h; exact putV'_err hr
    · exact againGo_err back n _ _ h
theorem againV_err {n back : Nat} {out : List UInt8} {k : Int} (h : againV n back out = .error k) : Bad k := by
  unfold againV at h
  split at h
  · injection h with h; exact .inl h.symm
  · exact againGo_err _ _ _ _ h
theorem storedGo_err (B : List UInt8) : ∀ n t out k, storedGo B n t out = .error k → Bad k
  | 0, t, out, k, h => by cases h
  | n + 1, t, out, k, h => by
    rw [storedGo] at h
    split at h
    · injection h with h; exact .inr (.inl h.symm)
    · split at h
      · rename_i hr
        injection h with h; subst h; exact putV'_err hr
      · exact storedGo_err B n _ _ _ h
theorem pressGo_err (S D : List Nat) (B : List UInt8) : ∀ f t out k, t ≤ 8 * B.length → 8 * B.length + 1 - t ≤ f → pressGo S D B f t out = .error k → Bad k := by
  intro f
  induction f with
  | zero => intro t out k ht hf h; omega
  | succ f ih =>
    intro t out k ht hf h
    rw [pressGo] at h
    split at h
    · rename_i hr
      injection h with h; subst h; exact symGo_err _ _ _ _ _ _ _ hr
    · rename_i s t1 h1
      have a1 := symGo_le _ _ _ _ _ _ _ _ h1
      have b1 := sym_lt h1
      split at h
      · split at h
        · rename_i hr
          injection h with h; subst h; exact putV'_err hr
        · exact ih _ _ _ a1 (by omega) h
      · split at h
        · cases h
        · split at h
          · injection h with h; exact .inl h.symm
          · split at h
            · rename_i hr
              injection h with h; subst h; exact lenV_err hr
            · rename_i h2
              have a2 := lenV_to a1 h2
              have b2 := (lenV_ge h2).1
              split at h
              · rename_i hr
                injection h with h; subst h; exact distV_err hr
              · rename_i h3
                have a3 := distV_to h3
                have b3 := (distV_ge h3).1
                split at h
                · rename_i hr
                  injection h with h; subst h; exact againV_err hr
                · exact ih _ _ _ a3 (by omega) h
theorem runV_err {B : List UInt8} {s t : Nat} {acc : List Nat} {k : Int} (h : runV B s t acc = .error k) : Bad k := by
  unfold runV at h
  split at h
  · split at h
    · injection h with h; exact .inl h.symm
    · split at h
      · cases h
      · injection h with h; exact .inr (.inl h.symm)
  · split at h
    · split at h
      · cases h
      · injection h with h; exact .inr (.inl h.symm)
    · split at h
      · split at h
        · cases h
        · injection h with h; exact .inr (.inl h.symm)
      · cases h
theorem lensGo_err (S : List Nat) (B : List UInt8) (all : Nat) (hS : S.length = 19) : ∀ f t acc k, all < acc.length + f → acc.length ≤ all → (∀ x ∈ acc, x ≤ 15) → t ≤ 8 * B.length → lensGo S B all f t acc = .error k → Bad k
  | 0, t, acc, k, h1, h2, _, _, _ => by omega
  | f + 1, t, acc, k, h1, h2, hx, ht, h => by
    by_cases e : all ≤ acc.length
    · rw [lens_end e] at h; cases h
    · cases hs : sym S B t with
      | error k' =>
        rw [lens_no (by omega) hs] at h
        injection h with h
        subst h
        exact symGo_err _ _ _ _ _ _ _ hs
      | ok r =>
        obtain ⟨s, t1⟩ := r
        obtain ⟨i1, i2, i3⟩ := sym_in hs
        cases hr : runV B s t1 acc with
        | error k' =>
          rw [lens_run (by omega) hs hr] at h
          injection h with h
          subst h
          exact runV_err hr
        | ok r =>
          obtain ⟨n, times, t2⟩ := r
          obtain ⟨j1, j2, j3, j4, j5⟩ := runV_ok hr (by omega) hx i3
          by_cases hm : all - acc.length < times
          · rw [lens_many (by omega) hs hr hm] at h; injection h with h; exact .inl h.symm
          · rw [lens_step (by omega) hs hr (by omega)] at h
            exact lensGo_err S B all hS f t2 _ k (by rw [List.length_append, List.length_replicate]; omega) (by rw [List.length_append, List.length_replicate]; omega) (by
              intro x hx2
              rw [List.mem_append, List.mem_replicate] at hx2
              rcases hx2 with h2 | ⟨-, h2⟩
              · exact hx x h2
              · omega) j5 h
theorem ownV_err {B : List UInt8} {t : Nat} {k : Int} (h : ownV B t = .error k) : Bad k := by
  unfold ownV at h
  split at h
  · split at h
    · injection h with h; exact .inl h.symm
    · split at h
      · rename_i hle
        split at h
        · injection h with h; exact .inl h.symm
        · cases hl : lensGo (shortL B (numAt B 4 (t + 10) + 4) (t + 14)) B (numAt B 5 t + 257 + (numAt B 5 (t + 5) + 1)) (numAt B 5 t + 257 + (numAt B 5 (t + 5) + 1) + 1) (t + 14 + 3 * (numAt B 4 (t + 10) + 4)) [] with
          | error k' =>
            rw [hl] at h
            injection h with h
            subst h
            exact lensGo_err _ B _ (shortL_len B _ _) _ _ _ _ (by simp) (Nat.zero_le _) (by intro x hx; cases hx) hle hl
          | ok r =>
            obtain ⟨l, t2⟩ := r
            rw [hl, ownEnd] at h
            split at h
            · injection h with h; exact .inl h.symm
            · split at h
              · injection h with h; exact .inl h.symm
              · split at h
                · injection h with h; exact .inl h.symm
                · cases h
      · injection h with h; exact .inr (.inl h.symm)
  · injection h with h; exact .inr (.inl h.symm)
theorem block_err {B : List UInt8} {t : Nat} {out : List UInt8} {k : Int} (h : blockV B t out = .error k) : Bad k := by
  unfold blockV at h
  split at h
  · have key : ∀ k, kindV (numAt B 2 (t + 1)) B (t + 3) out = .error k → Bad k := by
      intro k h
      unfold kindV at h
      split at h
      · unfold storedV at h
        split at h
        · split at h
          · exact storedGo_err B _ _ _ _ h
          · injection h with h; exact .inl h.symm
        · injection h with h; exact .inr (.inl h.symm)
      · split at h
        · exact pressGo_err _ _ _ _ _ _ _ (by omega) (by omega) h
        · split at h
          · cases ho : ownV B (t + 3) with
            | error k' =>
              rw [ho] at h
              injection h with h
              subst h
              exact ownV_err ho
            | ok r =>
              obtain ⟨S, D, t1⟩ := r
              rw [ho, ownBlkV] at h
              have a := ownV_ok ho
              exact pressGo_err _ _ _ _ _ _ _ (by omega) (by omega) h
          · injection h with h; exact .inl h.symm
    cases hk : kindV (numAt B 2 (t + 1)) B (t + 3) out with
    | error k' =>
      rw [hk] at h
      injection h with h
      subst h
      exact key _ hk
    | ok x => rw [hk] at h; cases h
  · injection h with h; exact .inr (.inl h.symm)
theorem rawGo_err (B : List UInt8) : ∀ f t out k, t ≤ 8 * B.length → 8 * B.length + 1 - t ≤ f → rawGo B f t out = .error k → Bad k := by
  intro f
  induction f with
  | zero => intro t out k ht hf h; omega
  | succ f ih =>
    intro t out k ht hf h
    rw [rawGo_succ] at h
    split at h
    · rename_i hb
      injection h with h; subst h; exact block_err hb
    · rename_i last o1 t1 hb
      have a1 := block_to hb
      have b1 := block_lt hb
      split at h
      · cases h
      · exact ih _ _ _ a1 (by omega) h
theorem rawV_err {B : List UInt8} {k : Int} (h : rawV B = .error k) : (k != 0) = true := by
  have := rawGo_err B _ _ _ _ (Nat.zero_le _) (Nat.le_refl _) h
  rcases this with rfl | rfl | rfl | rfl <;> rfl

theorem ByR.drop {w : World} {B0 k o : Nat} {B : List UInt8} (h : ByR w B0 (some ⟨k, o, none⟩) B) (n : Nat) : ByR w B0 (some ⟨k, o + n, none⟩) (B.drop n) := by
  intro i hi
  rw [List.length_drop] at hi
  obtain ⟨k', o', hp, hk, hc⟩ := h (n + i) (by omega)
  injection hp with hp
  injection hp with e1 e2
  subst e1 e2
  exact ⟨k, o + n, rfl, hk, by rw [Nat.add_assoc, hc, List.getElem_drop]⟩
theorem ByR.kept {w w' : World} {B0 : Nat} {p : Option Addr} {B : List UInt8} (h : ByR w B0 p B) (k : Kept w w') (hb : B0 ≤ w.heap.size) : ByR w' w'.heap.size p B := by
  intro i hi
  obtain ⟨k', o', hp, hk, hc⟩ := h i hi
  have := Below.size k
  exact ⟨k', o', hp, by omega, by rw [← hc]; exact k.cells.1 _ _ (by omega)⟩
theorem Out.byR {w : World} {B : Nat} {v : Value} {l : List UInt8} (h : Out w B v l) : ∃ p c, v = .slice p l.length c ∧ ByR w w.heap.size p l := by
  rcases h.parts with ⟨rfl, rfl⟩ | ⟨g, cap, rfl, hg, hc⟩
  · exact ⟨none, 0, rfl, fun i hi => by cases hi⟩
  · exact ⟨some ⟨g, 0, none⟩, cap, rfl, fun i hi => ⟨g, 0, rfl, (h.lt g rfl).2, by rw [Nat.zero_add]; exact hc i hi⟩⟩

set_option maxRecDepth 100000 in
theorem Zlib_any (B : List UInt8) (p : Option Addr) (c : Nat) (w : World) (h : ByR w w.heap.size p B) (hc : B.length ≤ c) (hB : B.length ≤ 1099511627776) (ho : Ordd w) :
    Calls Tryd.prog 15 #[.slice p B.length c] w (RawA w (zlibV B)) := by
  have HORD := Lib.hid ho
  clear ho
  by_cases h2 : B.length < 2
  · have HV := Lib.hid (show zlibV B = .error 4 by unfold zlibV; rw [if_pos h2])
    clear h
    go_enter Tryd.func15, Tryd.ntmps15
    go_wp2_with fail
    refine bodyPost_ret (v := .tuple #[.slice none 0 0, .int .i64 0, .int .i64 4]) (by simp [results, Tryd.results15, go_sem]) rfl ?_
    unfold RawA
    rw [HV.out]
    exact ⟨Kept.refl _, rfl⟩
  · have i0 : (0 : Int) < (B.length : Int) := by omega
    have i1 : (1 : Int) < (B.length : Int) := by omega
    obtain ⟨k, o, hp, hk, hc0⟩ := h 0 (by omega)
    subst hp
    have HB := Lib.hid h
    have hc1 : w.cell? ⟨k, o + 1, none⟩ = some (.int .u8 ((B.getD 1 0).toNat : Int)) := by
      obtain ⟨k', o', hp, -, hc⟩ := h 1 (by omega)
      injection hp with hp
      injection hp with e1 e2
      subst e1 e2
      rw [hc]; simp [List.getD, show 1 < B.length by omega]
    have hc0' : w.cell? ⟨k, o, none⟩ = some (.int .u8 ((B.getD 0 0).toNat : Int)) := by
      rw [Nat.add_zero] at hc0
      rw [hc0]; simp [List.getD, show 0 < B.length by omega]
    clear hc0 h
    have j0 : 0 < B.length := by omega
    obtain ⟨x, hx⟩ : ∃ x, x = B.getD 0 0 := ⟨_, rfl⟩
    obtain ⟨y, hy⟩ : ∃ y, y = B.getD 1 0 := ⟨_, rfl⟩
    have HXY := Lib.hid (And.intro hx hy)
    rw [← hx] at hc0'
    rw [← hy] at hc1
    clear hx hy
    have IH := Lib.hid (fun w' (k : Kept w w') => isHead_any x y w')
    have RA := Lib.hid (fun w' p' c' (hb : ByR w' w'.heap.size p' (B.drop 2)) (hn : Kept w w') => (show Calls Tryd.prog 17 #[.slice p' (B.length - 2) c'] w' (RawA w' (rawV (B.drop 2))) by
      have z := Raw_any (B.drop 2) p' c' w' hb (by rw [List.length_drop]; omega) (HORD.out.kept hn)
      rwa [List.length_drop] at z))
    by_cases hh : headV x y = true
    · have HZ := Lib.hid (show zlibV B = tailV B (rawV (B.drop 2)) by
        unfold zlibV
        rw [← HXY.out.1, ← HXY.out.2, if_neg h2, if_neg (by rw [hh]; decide)])
      rw [hh] at IH
      by_cases hc2 : c = 2
      · subst hc2
        have hn0 : B.length = 2 := by omega
        have hd0 : B.drop 2 = [] := List.drop_eq_nil_of_le (by omega)
        have HZ2 := Lib.hid (show zlibV B = .error 4 by rw [HZ.out, hd0]; rfl)
        have RA2 := Lib.hid (fun w' p' c' (hn : Kept w w') => (show Calls Tryd.prog 17 #[.slice p' 0 c'] w' (RawA w' (.error 4)) by
          have z := RA.out w' p' c' (by rw [hd0]; intro i hi; cases hi) hn
          rw [hd0, show B.length - 2 = 0 by omega] at z
          exact z))
        clear hd0
        rw [hn0]
        go_enter Tryd.func15, Tryd.ntmps15
        go_wp2_with fail
        go_region_held3 (fun w' => w'.cell? ⟨k, o, none⟩ = some (.int .u8 (x.toNat : Int)) ∧ w'.cell? ⟨k, o + 1, none⟩ = some (.int .u8 (y.toNat : Int))) (go_keep) ((go_at_call 34; (with_reducible refine (IH.out _ (Kept.refl w).drew).mono ?_); rintro e w2 ⟨rfl, hk2⟩; have K2 := Lib.hid (((Kept.refl w).drew).trans hk2); have m0 : w2.cell? ⟨k, o, none⟩ = some (.int .u8 (x.toNat : Int)) := (by with_reducible exact (K2.out.cells.1 k o hk).trans hc0'); have m1 : w2.cell? ⟨k, o + 1, none⟩ = some (.int .u8 (y.toNat : Int)) := (by with_reducible exact (K2.out.cells.1 k (o + 1) hk).trans hc1); clear hk2))
        go_wp2_with fail
        (with_reducible refine (RA2.out _ _ _ K2.out).mono ?_)
        rintro e w3 ⟨hk3, he⟩
        obtain rfl : e = .returned (.tuple #[.slice none 0 0, .int .i64 0, .int .i64 4]) := he
        go_wp2_with fail
        refine bodyPost_ret (v := .tuple #[.slice none 0 0, .int .i64 0, .int .i64 4]) (by simp [results, Tryd.results15, go_sem]) rfl ?_
        unfold RawA
        rw [HZ2.out]
        exact ⟨K2.out.trans hk3, rfl⟩
      · have k2 : ¬ c - 2 = 0 := by omega
        go_enter Tryd.func15, Tryd.ntmps15
        go_wp2_with fail
        go_region_held3 (fun w' => w'.cell? ⟨k, o, none⟩ = some (.int .u8 (x.toNat : Int)) ∧ w'.cell? ⟨k, o + 1, none⟩ = some (.int .u8 (y.toNat : Int))) (go_keep) ((go_at_call 34; (with_reducible refine (IH.out _ (Kept.refl w).drew).mono ?_); rintro e w2 ⟨rfl, hk2⟩; have K2 := Lib.hid (((Kept.refl w).drew).trans hk2); have m0 : w2.cell? ⟨k, o, none⟩ = some (.int .u8 (x.toNat : Int)) := (by with_reducible exact (K2.out.cells.1 k o hk).trans hc0'); have m1 : w2.cell? ⟨k, o + 1, none⟩ = some (.int .u8 (y.toNat : Int)) := (by with_reducible exact (K2.out.cells.1 k (o + 1) hk).trans hc1); clear hk2))
        go_wp2_with fail
        (with_reducible refine (RA.out w2 _ _ (((HB.out.kept K2.out (Nat.le_refl _))).drop 2) K2.out).mono ?_)
        rintro e w3 ⟨hk3, he⟩
        cases hr : rawV (B.drop 2) with
        | error k' =>
          rw [hr] at he
          obtain rfl : e = .returned (.tuple #[.slice none 0 0, .int .i64 0, .int .i64 k']) := he
          have hk0 := rawV_err hr
          have HZ2 := Lib.hid (show zlibV B = .error k' by rw [HZ.out, hr]; rfl)
          have K3 := Lib.hid (K2.out.trans hk3)
          clear hr hk3
          go_wp2_with fail
          refine bodyPost_ret (v := .tuple #[.slice none 0 0, .int .i64 0, .int .i64 k']) (by simp [results, Tryd.results15, go_sem]) rfl ?_
          unfold RawA
          rw [HZ2.out]
          exact ⟨K3.out, rfl⟩
        | ok x =>
          obtain ⟨q, n⟩ := x
          rw [hr] at he
          obtain ⟨v, rfl, hov, hql⟩ := he
          have hn := rawGo_to _ _ _ _ _ _ hr
          rw [List.length_drop] at hn
          obtain ⟨pv, cv, rfl, hbv⟩ := hov.byR
          have OV := Lib.hid hov
          have HBV := Lib.hid hbv
          have HZ2 := Lib.hid (show zlibV B = if B.length - 2 - n < 4 then .error 4 else if sumV ((B.drop 2).drop n) = adler q then .ok (q, n + 6) else .error 3 by rw [HZ.out, hr]; rfl)
          have K3 := Lib.hid (K2.out.trans hk3)
          clear hr hov hbv hk3
          by_cases h4 : B.length - 2 - n < 4
          · have HZ3 := Lib.hid (HZ2.out.trans (if_pos h4))
            go_wp2_with fail
            all_goals
              refine bodyPost_ret (v := .tuple #[.slice none 0 0, .int .i64 0, .int .i64 4]) (by simp [results, Tryd.results15, go_sem]) rfl ?_
              unfold RawA
              rw [HZ3.out]
              exact ⟨K3.out, rfl⟩
          · have HZ3 := Lib.hid (HZ2.out.trans (if_neg h4))
            have k3 : ¬ c - (2 + n) = 0 := by omega
            have hl3 : ((B.drop 2).drop n).length = B.length - (2 + n) := by rw [List.length_drop, List.length_drop]; omega
            have SU := Lib.hid (fun w' c' (kk : Kept w3 w') (hc' : B.length - (2 + n) ≤ c') => (show Calls Tryd.prog 35 #[.slice (some ⟨k, o + (2 + n), none⟩) (B.length - (2 + n)) c'] w' (fun e w'' => e = .returned (.int .u32 (sumV ((B.drop 2).drop n) : Nat)) ∧ Kept w' w'') by
              have z := sumOf_any ((B.drop 2).drop n) (some ⟨k, o + 2 + n, none⟩) c' _ w' (((HB.out.kept (K3.out.trans kk) (Nat.le_refl _)).drop 2).drop n) (by rw [hl3]; omega) (by rw [hl3]; exact hc')
              rw [hl3, Nat.add_assoc o 2 n] at z
              exact z))
            have AD := Lib.hid (fun w' (kk : Kept w3 w') => Adler_any q pv cv w' (HBV.out.kept kk (Nat.le_refl _)) (by omega))
            obtain ⟨s, hs⟩ : ∃ s, s = sumV ((B.drop 2).drop n) := ⟨_, rfl⟩
            obtain ⟨a, ha⟩ : ∃ a, a = adler q := ⟨_, rfl⟩
            rw [← hs] at SU
            rw [← ha] at AD
            have HZ4 := Lib.hid (show zlibV B = if s = a then .ok (q, n + 6) else .error 3 by rw [HZ3.out, hs, ha])
            clear hs ha hl3
            go_wp2_with fail
            (with_reducible refine (SU.out w3 _ (Kept.refl w3) (by omega)).mono ?_)
            rintro e w4 ⟨rfl, hk4⟩
            have K4 := Lib.hid hk4
            clear hk4
            go_wp2_with fail
            (with_reducible refine (AD.out w4 K4.out).mono ?_)
            rintro e w5 ⟨rfl, hk5⟩
            have K5 := Lib.hid (K4.out.trans hk5)
            clear hk5
            by_cases hsa : s = a
            · have HZ5 := Lib.hid (HZ4.out.trans (if_pos hsa))
              subst hsa
              go_wp2_with fail
              refine bodyPost_ret (v := .tuple #[.slice pv q.length cv, .int .i64 ((n + 6 : Nat) : Int), .int .i64 0]) (by simp [results, Tryd.results15, go_sem]; omega) rfl ?_
              unfold RawA
              rw [HZ5.out]
              exact ⟨K3.out.trans K5.out, _, rfl, (OV.out.kept K5.out).low (Below.size K2.out), hql⟩
            · have HZ5 := Lib.hid (HZ4.out.trans (if_neg hsa))
              have hsn : ((s : Int) != (a : Int)) = true := by rw [bne_iff_ne]; omega
              go_wp2_with fail
              refine bodyPost_ret (v := .tuple #[.slice none 0 0, .int .i64 0, .int .i64 3]) (by simp [results, Tryd.results15, go_sem]) rfl ?_
              unfold RawA
              rw [HZ5.out]
              exact ⟨K3.out.trans K5.out, rfl⟩
    · have hh := Bool.eq_false_iff.2 hh
      have HV := Lib.hid (show zlibV B = .error 3 by unfold zlibV; rw [← HXY.out.1, ← HXY.out.2, if_neg h2, if_pos hh])
      rw [hh] at IH
      go_enter Tryd.func15, Tryd.ntmps15
      go_wp2_with fail
      go_region_held3 (fun w' => w'.cell? ⟨k, o, none⟩ = some (.int .u8 (x.toNat : Int)) ∧ w'.cell? ⟨k, o + 1, none⟩ = some (.int .u8 (y.toNat : Int))) (go_keep) ((go_at_call 34; (with_reducible refine (IH.out _ (Kept.refl w).drew).mono ?_); rintro e w2 ⟨rfl, hk2⟩; have K2 := Lib.hid (((Kept.refl w).drew).trans hk2); have m0 : w2.cell? ⟨k, o, none⟩ = some (.int .u8 (x.toNat : Int)) := (by with_reducible exact (K2.out.cells.1 k o hk).trans hc0'); have m1 : w2.cell? ⟨k, o + 1, none⟩ = some (.int .u8 (y.toNat : Int)) := (by with_reducible exact (K2.out.cells.1 k (o + 1) hk).trans hc1); clear hk2))
      go_wp2_with fail
      refine bodyPost_ret (v := .tuple #[.slice none 0 0, .int .i64 0, .int .i64 3]) (by simp [results, Tryd.results15, go_sem]) rfl ?_
      unfold RawA
      rw [HV.out]
      exact ⟨K2.out, rfl⟩

end Go.Proofs.YtpplboihlndfpaaDoor
