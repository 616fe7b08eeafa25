/-
  Letters, each by its code of the kind 1: what blocks tell of them.
-/
import Derived.Test.YtpplboihlndfpaaInfBlockMath
namespace Go.Proofs.Ytpplboihlndfpaa.Ix
set_option linter.unusedSimpArgs false
set_option linter.unusedVariables false

theorem fix_beh : beh fixS 1 = 0 ∧ beh fixS 2 = 0 ∧ beh fixS 3 = 0 ∧ beh fixS 4 = 0 ∧ beh fixS 5 = 0 ∧ beh fixS 6 = 0 ∧ beh fixS 7 = 24 ∧ beh fixS 8 = 200 ∧ fst fixS 7 = 0 ∧ fst fixS 8 = 48 := by
  refine ⟨?_, ?_, ?_, ?_, ?_, ?_, ?_, ?_, ?_, ?_⟩ <;> kernel_rfl
theorem fix_pos (x : Nat) (h1 : 97 ≤ x) (h2 : x ≤ 122) : (pos fixS 8).getD x 0 = x := by
  have key : (List.range 26).all (fun i => (pos fixS 8).getD (97 + i) 0 == 97 + i) = true := by kernel_rfl
  have := List.all_eq_true.1 key (x - 97) (List.mem_range.2 (by omega))
  rw [show 97 + (x - 97) = x by omega] at this
  exact beq_iff_eq.1 this
theorem sym_skip (L : List Nat) (B : List UInt8) (k n c t c' b : Nat) (ht : t < 8 * B.length) (hb : bitAt B t = b) (hc : c' = 2 * c + b) (h : ¬ (fst L n ≤ c' ∧ c' < beh L n)) : symGo L B (k + 1) n c t = symGo L B k (n + 1) c' (t + 1) := by
  rw [symGo, if_pos ht, hb, ← hc, if_neg h]
theorem sym_hit (L : List Nat) (B : List UInt8) (k n c t c' b s : Nat) (ht : t < 8 * B.length) (hb : bitAt B t = b) (hc : c' = 2 * c + b) (h : fst L n ≤ c' ∧ c' < beh L n) (hs : (pos L n).getD (c' - fst L n) 0 = s) : symGo L B (k + 1) n c t = .ok (s, t + 1) := by
  rw [symGo, if_pos ht, hb, ← hc, if_pos h, hs]
theorem sym_letter (B : List UInt8) (t x : Nat) (h1 : 97 ≤ x) (h2 : x ≤ 122) (hl : t + 8 ≤ 8 * B.length) (hb : ∀ i, i < 8 → bitAt B (t + i) = (x + 48) / 2 ^ (7 - i) % 2) : sym fixS B t = .ok (x, t + 8) := by
  obtain ⟨e1, e2, e3, e4, e5, e6, e7, e8, f7, f8⟩ := fix_beh
  have b0 := hb 0 (by decide)
  have b1 := hb 1 (by decide)
  have b2 := hb 2 (by decide)
  have b3 := hb 3 (by decide)
  have b4 := hb 4 (by decide)
  have b5 := hb 5 (by decide)
  have b6 := hb 6 (by decide)
  have b7 := hb 7 (by decide)
  simp only [Nat.add_zero, Nat.reduceSub, Nat.reducePow, Nat.div_one] at b0 b1 b2 b3 b4 b5 b6 b7
  unfold sym
  rw [sym_skip fixS B 14 1 0 t ((x + 48) / 128) _ (by omega) b0 (by omega) (by rw [e1]; omega)]
  rw [sym_skip fixS B 13 2 _ (t + 1) ((x + 48) / 64) _ (by omega) b1 (by omega) (by rw [e2]; omega)]
  rw [sym_skip fixS B 12 3 _ (t + 2) ((x + 48) / 32) _ (by omega) b2 (by omega) (by rw [e3]; omega)]
  rw [sym_skip fixS B 11 4 _ (t + 3) ((x + 48) / 16) _ (by omega) b3 (by omega) (by rw [e4]; omega)]
  rw [sym_skip fixS B 10 5 _ (t + 4) ((x + 48) / 8) _ (by omega) b4 (by omega) (by rw [e5]; omega)]
  rw [sym_skip fixS B 9 6 _ (t + 5) ((x + 48) / 4) _ (by omega) b5 (by omega) (by rw [e6]; omega)]
  rw [sym_skip fixS B 8 7 _ (t + 6) ((x + 48) / 2) _ (by omega) b6 (by omega) (by rw [e7]; omega)]
  rw [sym_hit fixS B 7 8 _ (t + 7) (x + 48) _ x (by omega) b7 (by omega) (by rw [e8, f8]; omega) (by rw [f8, show x + 48 - 48 = x by omega]; exact fix_pos x h1 h2)]
theorem sym_end (B : List UInt8) (t : Nat) (hl : t + 7 ≤ 8 * B.length) (hb : ∀ i, i < 7 → bitAt B (t + i) = 0) : sym fixS B t = .ok (256, t + 7) := by
  obtain ⟨e1, e2, e3, e4, e5, e6, e7, e8, f7, f8⟩ := fix_beh
  have b0 := hb 0 (by decide)
  have b1 := hb 1 (by decide)
  have b2 := hb 2 (by decide)
  have b3 := hb 3 (by decide)
  have b4 := hb 4 (by decide)
  have b5 := hb 5 (by decide)
  have b6 := hb 6 (by decide)
  simp only [Nat.add_zero] at b0
  unfold sym
  rw [sym_skip fixS B 14 1 0 t 0 _ (by omega) b0 (by omega) (by rw [e1]; omega)]
  rw [sym_skip fixS B 13 2 _ (t + 1) 0 _ (by omega) b1 (by omega) (by rw [e2]; omega)]
  rw [sym_skip fixS B 12 3 _ (t + 2) 0 _ (by omega) b2 (by omega) (by rw [e3]; omega)]
  rw [sym_skip fixS B 11 4 _ (t + 3) 0 _ (by omega) b3 (by omega) (by rw [e4]; omega)]
  rw [sym_skip fixS B 10 5 _ (t + 4) 0 _ (by omega) b4 (by omega) (by rw [e5]; omega)]
  rw [sym_skip fixS B 9 6 _ (t + 5) 0 _ (by omega) b5 (by omega) (by rw [e6]; omega)]
  rw [sym_hit fixS B 8 7 _ (t + 6) 0 _ 256 (by omega) b6 (by omega) (by rw [e7, f7]; omega) (by rw [f7]; kernel_rfl)]

/-- The bits of letters, from a place on. -/
def letBits (B : List UInt8) : Nat → List UInt8 → Prop
  | t, [] => ∀ i, i < 7 → bitAt B (t + i) = 0
  | t, x :: r => (∀ i, i < 8 → bitAt B (t + i) = (x.toNat + 48) / 2 ^ (7 - i) % 2) ∧ letBits B (t + 8) r
theorem press_letters (B : List UInt8) : ∀ (s : List UInt8) (t f : Nat) (out : List UInt8), letBits B t s → (∀ x ∈ s, 97 ≤ x.toNat ∧ x.toNat ≤ 122) → t + 8 * s.length + 7 ≤ 8 * B.length → s.length < f → out.length + s.length ≤ 1048576 →
    pressGo fixS fixD B f t out = .ok (out ++ s, t + 8 * s.length + 7)
  | [], t, f, out, hb, _, hl, hf, ho => by
    obtain ⟨g, rfl⟩ : ∃ g, f = g + 1 := ⟨f - 1, by simp at hf; omega⟩
    rw [pressGo, sym_end B t (by simpa using hl) hb]
    simp
  | x :: r, t, f, out, hb, hx, hl, hf, ho => by
    obtain ⟨g, rfl⟩ : ∃ g, f = g + 1 := ⟨f - 1, by omega⟩
    simp only [List.length_cons] at hl hf ho
    have h1 := hx x (by simp)
    rw [pressGo, sym_letter B t x.toNat h1.1 h1.2 (by omega) hb.1]
    have hp : putV' out (UInt8.ofNat x.toNat) = .ok (out ++ [x]) := by
      unfold putV'
      rw [if_neg (by omega)]
      simp
    show (if x.toNat < 256 then _ else _) = _
    rw [if_pos x.toNat_lt, hp]
    have := press_letters B r (t + 8) g (out ++ [x]) hb.2 (fun y hy => hx y (by simp [hy])) (by omega) (by omega) (by rw [List.length_append, List.length_singleton]; omega)
    simp only [this, List.append_assoc, List.singleton_append, List.length_cons]
    congr 2; omega
theorem raw_letters (B s : List UInt8) (h0 : bitAt B 0 = 1) (h1 : bitAt B 1 = 1) (h2 : bitAt B 2 = 0) (hb : letBits B 3 s) (hx : ∀ x ∈ s, 97 ≤ x.toNat ∧ x.toNat ≤ 122) (hB : B.length = s.length + 2) (hs : s.length ≤ 300) :
    rawV B = .ok (s, B.length) := by
  have hp := press_letters B s 3 (8 * B.length + 1) [] hb hx (by omega) (by omega) (by simp; omega)
  have hk : numAt B 2 1 = 1 := by simp [numAt, h1, h2]
  have hv : blockV B 0 [] = .ok (true, s, 3 + 8 * s.length + 7) := by
    unfold blockV
    rw [if_pos (by omega), hk, h0]
    unfold kindV
    rw [if_neg (by decide), if_pos rfl, hp]
    rfl
  unfold rawV
  rw [raw_last hv]
  congr 2; omega

end Go.Proofs.Ytpplboihlndfpaa.Ix
