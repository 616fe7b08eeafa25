/-
  Package deflate as functions on lists: matches, tokens, and what tokens are as bytes. Nothing of the program is named here.
-/
import Derived.KernelRfl
namespace Go.Proofs.Ytpplboihlndfpaa.Dx
set_option linter.unusedSimpArgs false
set_option linter.unusedVariables false

structure Tok where
  lit : UInt8
  len : Int
  dist : Int

/-- The byte at a place. -/
def at' (b : List UInt8) (i : Nat) : UInt8 := b.getD i 0
theorem at_getElem (b : List UInt8) (i : Nat) (h : i < b.length) : b[i] = at' b i := by simp [at', List.getD, h]

/-- How many of so many bytes from i on are those from j on. -/
def mat (b : List UInt8) (i j : Nat) : Nat → Nat
  | 0 => 0
  | k + 1 => if mat b i j k = k ∧ at' b (i + k) = at' b (j + k) then k + 1 else mat b i j k
theorem mat_le (b : List UInt8) (i j : Nat) : ∀ k, mat b i j k ≤ k
  | 0 => Nat.le_refl _
  | k + 1 => by
    have := mat_le b i j k
    rw [mat]; split <;> omega
theorem mat_all (b : List UInt8) (i j : Nat) : ∀ k, (∀ t, t < k → at' b (i + t) = at' b (j + t)) → mat b i j k = k
  | 0, _ => rfl
  | k + 1, h => by
    rw [mat, if_pos ⟨mat_all b i j k (fun t ht => h t (by omega)), h k (by omega)⟩]
theorem mat_eq (b : List UInt8) (i j : Nat) : ∀ k t, t < mat b i j k → at' b (i + t) = at' b (j + t)
  | 0, t, h => by simp [mat] at h
  | k + 1, t, h => by
    rw [mat] at h
    split at h
    · rename_i c
      by_cases e : t = k
      · subst e; exact c.2
      · exact mat_eq b i j k t (by omega)
    · exact mat_eq b i j k t h
theorem mat_ne (b : List UInt8) (i j : Nat) : ∀ k, mat b i j k < k → at' b (i + mat b i j k) ≠ at' b (j + mat b i j k)
  | 0, h => by omega
  | k + 1, h => by
    rw [mat] at h ⊢
    split at h
    · omega
    · rename_i c
      rw [if_neg c]
      by_cases e : mat b i j k = k
      · intro e2; rw [e] at e2; exact c ⟨e, e2⟩
      · exact mat_ne b i j k (by have := mat_le b i j k; omega)
theorem mat_is {b : List UInt8} {i j k n : Nat} (h : ∀ t, t < n → at' b (i + t) = at' b (j + t)) (hn : n ≤ k) (he : n = k ∨ at' b (i + n) ≠ at' b (j + n)) : mat b i j k = n := by
  have h1 := mat_le b i j k
  by_cases c : mat b i j k < n
  · exact absurd (h _ c) (mat_ne b i j k (by omega))
  · by_cases d : n < mat b i j k
    · rcases he with e | e
      · omega
      · exact absurd (mat_eq b i j k n d) e
    · omega

/-- As many bytes as a match at i may have. -/
def top (b : List UInt8) (i : Nat) : Nat := min 258 (b.length - i)
def M (b : List UInt8) (i j : Nat) : Nat := mat b i j (top b i)
theorem M_le (b : List UInt8) (i j : Nat) : M b i j ≤ top b i := mat_le _ _ _ _
theorem top_le (b : List UInt8) (i : Nat) : top b i ≤ 258 ∧ top b i ≤ b.length - i := by unfold top; omega
theorem M_three {b : List UInt8} {i j : Nat} (h : 3 ≤ M b i j) : at' b i = at' b j ∧ at' b (i + 1) = at' b (j + 1) ∧ at' b (i + 2) = at' b (j + 2) :=
  ⟨mat_eq b i j (top b i) 0 (by unfold M at h; omega), mat_eq b i j (top b i) 1 (by unfold M at h; omega), mat_eq b i j (top b i) 2 (by unfold M at h; omega)⟩

/-- The longest match at i of those from lo up to hi, and of these the one that is nearest. -/
structure Best (b : List UInt8) (i lo hi n d : Nat) : Prop where
  le : ∀ j, lo ≤ j → j < hi → i ≤ j + 32768 → M b i j < 3 ∨ M b i j ≤ n
  none : n = 0 → d = 0
  some : n ≠ 0 → 3 ≤ n ∧ d ≤ i ∧ lo + d ≤ i ∧ i < hi + d ∧ d ≤ 32768 ∧ M b i (i - d) = n ∧ ∀ j, i < j + d → j < hi → M b i j < n
theorem Best.start (b : List UInt8) (i k : Nat) : Best b i k k 0 0 := ⟨fun j h1 h2 => by omega, fun _ => rfl, fun h => absurd rfl h⟩
/-- One more below; those between say nothing. -/
theorem Best.below {b : List UInt8} {i lo hi n d : Nat} (h : Best b i lo hi n d) (j : Nat) (hj : j < lo) (hhi : hi ≤ i) (hlo : lo ≤ hi) (h3 : 3 ≤ M b i j) (hd : i ≤ j + 32768) (hb : ∀ t, j < t → t < lo → M b i t < 3) :
    (n < M b i j → Best b i j hi (M b i j) (i - j)) ∧ (M b i j ≤ n → Best b i j hi n d) := by
  constructor
  · intro hn
    refine ⟨fun t h1 h2 h4 => ?_, fun e => by omega, fun _ => ⟨h3, by omega, by omega, by omega, by omega, by rw [show i - (i - j) = j by omega], fun t ht h2 => ?_⟩⟩
    · by_cases e : t = j
      · subst e; exact .inr (Nat.le_refl _)
      · by_cases c : t < lo
        · exact .inl (hb t (by omega) c)
        · rcases h.le t (by omega) h2 h4 with k | k
          · exact .inl k
          · exact .inr (by omega)
    · by_cases c : t < lo
      · have := hb t (by omega) c; omega
      · rcases h.le t (by omega) h2 (by omega) with k | k
        · omega
        · omega
  · intro hn
    refine ⟨fun t h1 h2 h4 => ?_, h.none, fun e => ?_⟩
    · by_cases e : t = j
      · subst e; exact .inr hn
      · by_cases c : t < lo
        · exact .inl (hb t (by omega) c)
        · exact h.le t (by omega) h2 h4
    · obtain ⟨a1, a2, a3, a4, a5, a6, a7⟩ := h.some e
      exact ⟨a1, a2, by omega, a4, a5, a6, a7⟩
/-- Those below say nothing. -/
theorem Best.down {b : List UInt8} {i lo hi n d : Nat} (h : Best b i lo hi n d) (hh : ∀ t, t < lo → i ≤ t + 32768 → M b i t < 3 ∨ M b i t ≤ n) : Best b i 0 hi n d := by
  refine ⟨fun t h1 h2 h4 => ?_, h.none, fun e => ?_⟩
  · by_cases c : t < lo
    · exact hh t c h4
    · exact h.le t (by omega) h2 h4
  · obtain ⟨a1, a2, a3, a4, a5, a6, a7⟩ := h.some e
    exact ⟨a1, a2, by omega, a4, a5, a6, a7⟩
/-- One more above. -/
theorem Best.above {b : List UInt8} {i lo hi n d : Nat} (h : Best b i lo hi n d) (hhi : hi < i) (hd : i ≤ hi + 32768) (hlo : lo ≤ hi) :
    (3 ≤ M b i hi ∧ n ≤ M b i hi → Best b i lo (hi + 1) (M b i hi) (i - hi)) ∧ (¬ (3 ≤ M b i hi ∧ n ≤ M b i hi) → Best b i lo (hi + 1) n d) := by
  constructor
  · rintro ⟨h3, hn⟩
    refine ⟨fun t h1 h2 h4 => ?_, fun e => by omega, fun _ => ⟨h3, by omega, by omega, by omega, by omega, by rw [show i - (i - hi) = hi by omega], fun t ht h2 => by omega⟩⟩
    by_cases e : t = hi
    · subst e; exact .inr (Nat.le_refl _)
    · rcases h.le t h1 (by omega) h4 with k | k
      · exact .inl k
      · exact .inr (by omega)
  · intro hc
    refine ⟨fun t h1 h2 h4 => ?_, h.none, fun e => ?_⟩
    · by_cases e : t = hi
      · subst e; omega
      · exact h.le t h1 (by omega) h4
    · obtain ⟨a1, a2, a3, a4, a5, a6, a7⟩ := h.some e
      refine ⟨a1, a2, a3, by omega, a5, a6, fun t ht h2 => ?_⟩
      by_cases e : t = hi
      · subst e; omega
      · exact a7 t ht (by omega)
theorem Best.uniq {b : List UInt8} {i n d n' d' : Nat} (h : Best b i 0 i n d) (k : Best b i 0 i n' d') : n = n' ∧ d = d' := by
  by_cases e : n = 0
  · by_cases e' : n' = 0
    · exact ⟨by omega, by rw [h.none e, k.none e']⟩
    · obtain ⟨a1, a2, a3, a4, a5, a6, a7⟩ := k.some e'
      rcases h.le (i - d') (Nat.zero_le _) (by omega) (by omega) with c | c <;> omega
  · obtain ⟨a1, a2, a3, a4, a5, a6, a7⟩ := h.some e
    by_cases e' : n' = 0
    · rcases k.le (i - d) (Nat.zero_le _) (by omega) (by omega) with c | c <;> omega
    · obtain ⟨b1, b2, b3, b4, b5, b6, b7⟩ := k.some e'
      have c1 := h.le (i - d') (Nat.zero_le _) (by omega) (by omega)
      have c2 := k.le (i - d) (Nat.zero_le _) (by omega) (by omega)
      have e3 : n = n' := by omega
      refine ⟨e3, ?_⟩
      by_cases g : d < d'
      · have := b7 (i - d) (by omega) (by omega); omega
      · by_cases g : d' < d
        · have := a7 (i - d') (by omega) (by omega); omega
        · omega

def dn (b : List UInt8) (i : Nat) : Nat → Nat × Nat → Nat × Nat
  | 0, r => r
  | j + 1, r => dn b i j (if i ≤ j + 32768 ∧ 3 ≤ M b i j ∧ r.1 < M b i j then (M b i j, i - j) else r)
/-- The longest match at a place, and how far ahead it is. -/
def long (b : List UInt8) (i : Nat) : Nat × Nat := dn b i i (0, 0)
theorem dn_best (b : List UInt8) (i : Nat) : ∀ (j : Nat) (r : Nat × Nat), j ≤ i → Best b i j i r.1 r.2 → Best b i 0 i (dn b i j r).1 (dn b i j r).2
  | 0, r, _, h => h
  | j + 1, r, hj, h => by
    rw [dn]
    apply dn_best b i j _ (by omega)
    by_cases c : i ≤ j + 32768 ∧ 3 ≤ M b i j
    · have z := h.below j (by omega) (Nat.le_refl _) hj c.2 c.1 (fun t h1 h2 => by omega)
      by_cases d : r.1 < M b i j
      · rw [if_pos ⟨c.1, c.2, d⟩]; exact z.1 d
      · rw [if_neg (by omega)]; exact z.2 (by omega)
    · rw [if_neg (by omega)]
      refine ⟨fun t h1 h2 h4 => ?_, h.none, fun e => ?_⟩
      · by_cases e : t = j
        · subst e; omega
        · exact h.le t (by omega) h2 h4
      · obtain ⟨a1, a2, a3, a4, a5, a6, a7⟩ := h.some e
        exact ⟨a1, a2, by omega, a4, a5, a6, a7⟩
theorem long_best (b : List UInt8) (i : Nat) : Best b i 0 i (long b i).1 (long b i).2 := dn_best b i i (0, 0) (Nat.le_refl _) (Best.start b i i)
theorem long_is {b : List UInt8} {i n d : Nat} (h : Best b i 0 i n d) : long b i = (n, d) := by
  obtain ⟨h1, h2⟩ := (long_best b i).uniq h
  rw [← h1, ← h2]
theorem long_le (b : List UInt8) (i : Nat) : (long b i).1 ≤ top b i ∧ (long b i).2 ≤ 32768 := by
  have h := long_best b i
  by_cases e : (long b i).1 = 0
  · rw [e, h.none e]; omega
  · obtain ⟨a1, a2, a3, a4, a5, a6, a7⟩ := h.some e
    have := M_le b i (i - (long b i).2)
    omega

/-- The nearest place ahead of the k-th where the three bytes stand that stand at i. -/
def near (b : List UInt8) (i : Nat) : Nat → Option Nat
  | 0 => none
  | k + 1 => if at' b k = at' b i ∧ at' b (k + 1) = at' b (i + 1) ∧ at' b (k + 2) = at' b (i + 2) then some k else near b i k
theorem near_lt (b : List UInt8) (i : Nat) : ∀ k j, near b i k = some j → j < k
  | 0, j, h => by cases h
  | k + 1, j, h => by
    rw [near] at h
    split at h
    · injection h with h; omega
    · have := near_lt b i k j h; omega
theorem near_is (b : List UInt8) (i : Nat) : ∀ k j, near b i k = some j → at' b j = at' b i ∧ at' b (j + 1) = at' b (i + 1) ∧ at' b (j + 2) = at' b (i + 2)
  | 0, j, h => by cases h
  | k + 1, j, h => by
    rw [near] at h
    split at h
    · rename_i c; injection h with h; subst h; exact c
    · exact near_is b i k j h
theorem near_none (b : List UInt8) (i : Nat) : ∀ k t, (∀ j, near b i k = some j → j < t) → t < k → ¬ (at' b t = at' b i ∧ at' b (t + 1) = at' b (i + 1) ∧ at' b (t + 2) = at' b (i + 2))
  | 0, t, _, h => by omega
  | k + 1, t, h, ht => by
    rw [near] at h
    split at h
    · have := h k rfl; omega
    · rename_i c
      by_cases e : t = k
      · subst e; exact c
      · exact near_none b i k t h (by omega)
/-- What nextAhead says of a place. -/
def ahd (b : List UInt8) (i : Nat) : Option Nat := if i + 3 ≤ b.length then near b i i else none
/-- A place with the same three bytes has the same places ahead of it. -/
theorem near_same {b : List UInt8} {i j : Nat} (h : at' b j = at' b i ∧ at' b (j + 1) = at' b (i + 1) ∧ at' b (j + 2) = at' b (i + 2)) : ∀ k, near b j k = near b i k
  | 0 => rfl
  | k + 1 => by rw [near, near, h.1, h.2.1, h.2.2, near_same h k]

/-- Bytes as tokens, from a place on. -/
def toks (b : List UInt8) : Nat → Nat → List Tok
  | 0, _ => []
  | f + 1, i => if i < b.length then
      if (long b i).1 = 0 then ⟨at' b i, 0, 0⟩ :: toks b f (i + 1) else ⟨0, (long b i).1, (long b i).2⟩ :: toks b f (i + (long b i).1)
    else []
def tokens (b : List UInt8) : List Tok := toks b b.length 0
theorem toks_end (b : List UInt8) : ∀ f i, b.length ≤ i → toks b f i = []
  | 0, i, _ => rfl
  | f + 1, i, h => by rw [toks, if_neg (by omega)]
theorem toks_lit {b : List UInt8} {f i : Nat} (h : i < b.length) (hf : b.length ≤ f + i) (h0 : (long b i).1 = 0) : ∃ g, b.length ≤ g + (i + 1) ∧ toks b f i = ⟨at' b i, 0, 0⟩ :: toks b g (i + 1) := by
  obtain ⟨g, rfl⟩ : ∃ g, f = g + 1 := ⟨f - 1, by omega⟩
  exact ⟨g, by omega, by rw [toks, if_pos h, if_pos h0]⟩
theorem toks_match {b : List UInt8} {f i : Nat} (h : i < b.length) (hf : b.length ≤ f + i) (h0 : (long b i).1 ≠ 0) : ∃ g, b.length ≤ g + (i + (long b i).1) ∧ toks b f i = ⟨0, (long b i).1, (long b i).2⟩ :: toks b g (i + (long b i).1) := by
  obtain ⟨g, rfl⟩ : ∃ g, f = g + 1 := ⟨f - 1, by omega⟩
  exact ⟨g, by omega, by rw [toks, if_pos h, if_neg h0]⟩

/-- As many bytes again as are so far back. -/
def copy (d : Nat) : Nat → List UInt8 → List UInt8
  | 0, o => o
  | n + 1, o => copy d n (o ++ [at' o (o.length - d)])
theorem copy_len (d : Nat) : ∀ n o, (copy d n o).length = o.length + n
  | 0, o => rfl
  | n + 1, o => by rw [copy, copy_len d n]; simp; omega
/-- How many bytes tokens are, if they may be. -/
def sizeGo : List Tok → Nat → Option Nat
  | [], n => some n
  | t :: r, n => if t.len < 0 ∨ 258 < t.len ∨ 0 < t.len ∧ (t.dist < 1 ∨ (n : Int) < t.dist) then none else sizeGo r (n + max t.len.toNat 1)
def expGo : List Tok → List UInt8 → List UInt8
  | [], o => o
  | t :: r, o => expGo r (if t.len = 0 then o ++ [t.lit] else copy t.dist.toNat t.len.toNat o)
def expandV (l : List Tok) : Except Int (List UInt8) := match sizeGo l 0 with
  | none => .error 1
  | some n => if 1048576 < n then .error 6 else .ok (expGo l [])

/-- What tokens of bytes are, is the bytes. -/
theorem copy_take (b : List UInt8) (i d : Nat) (hd : 1 ≤ d) (hi : d ≤ i) : ∀ n k, i + k + n ≤ b.length → (∀ t, t < k + n → at' b (i + t) = at' b (i - d + t)) → copy d n (b.take (i + k)) = b.take (i + k + n)
  | 0, k, _, _ => rfl
  | n + 1, k, hl, h => by
    have hlen : (b.take (i + k)).length = i + k := by rw [List.length_take]; omega
    have e : b.take (i + k) ++ [at' (b.take (i + k)) ((b.take (i + k)).length - d)] = b.take (i + (k + 1)) := by
      rw [hlen]
      have h1 : at' (b.take (i + k)) (i + k - d) = at' b (i + k - d) := by
        unfold at'
        simp [List.getD, List.getElem?_take, show i + k - d < i + k by omega]
      rw [h1, show i + k - d = i - d + k by omega, ← h k (by omega), ← at_getElem b (i + k) (by omega)]
      exact (List.take_succ_eq_append_getElem (by omega)).symm
    rw [copy, e, copy_take b i d hd hi n (k + 1) (by omega) (fun t ht => h t (by omega))]
    congr 1; omega
theorem toks_back (b : List UInt8) : ∀ f i, b.length ≤ f + i → i ≤ b.length → sizeGo (toks b f i) i = some b.length ∧ expGo (toks b f i) (b.take i) = b
  | 0, i, h, hi => by
    obtain rfl : i = b.length := by omega
    exact ⟨rfl, by simp [toks, expGo]⟩
  | f + 1, i, h, hi => by
    by_cases c : i < b.length
    · by_cases e : (long b i).1 = 0
      · have := toks_back b f (i + 1) (by omega) (by omega)
        rw [toks, if_pos c, if_pos e]
        refine ⟨?_, ?_⟩
        · rw [sizeGo, if_neg (by simp)]; exact this.1
        · rw [expGo]
          simp only [if_true]
          rw [← at_getElem b i c, ← List.take_succ_eq_append_getElem c]
          exact this.2
      · obtain ⟨a1, a2, a3, a4, a5, a6, a7⟩ := (long_best b i).some e
        have hM := M_le b i (i - (long b i).2)
        have ht := top_le b i
        have hd0 : 1 ≤ (long b i).2 := by omega
        have := toks_back b f (i + (long b i).1) (by omega) (by omega)
        rw [toks, if_pos c, if_neg e]
        refine ⟨?_, ?_⟩
        · rw [sizeGo, if_neg (by simp only; omega)]
          simp only [Int.toNat_natCast]
          rw [show max (long b i).1 1 = (long b i).1 by omega]
          exact this.1
        · rw [expGo]
          simp only
          rw [if_neg (by omega)]
          simp only [Int.toNat_natCast]
          have z := copy_take b i (long b i).2 hd0 a2 (long b i).1 0 (by omega) (fun t ht => by
            rw [Nat.zero_add] at ht
            have := mat_eq b i (i - (long b i).2) (top b i) t (by unfold M at a6; omega)
            exact this)
          rw [Nat.add_zero] at z
          rw [z]
          exact this.2
    · obtain rfl : i = b.length := by omega
      rw [toks_end b _ _ (Nat.le_refl _)]
      exact ⟨rfl, by simp [expGo]⟩
theorem expand_tokens (b : List UInt8) (h : b.length ≤ 1048576) : expandV (tokens b) = .ok b := by
  obtain ⟨h1, h2⟩ := toks_back b b.length 0 (by omega) (by omega)
  unfold expandV
  show (match sizeGo (toks b b.length 0) 0 with | none => _ | some n => _) = _
  rw [h1]
  simp only
  rw [if_neg (by omega)]
  exact congrArg _ h2
theorem toks_len (b : List UInt8) : ∀ f i, (toks b f i).length ≤ f
  | 0, i => Nat.le_refl _
  | f + 1, i => by
    rw [toks]
    split
    · split
      · have := toks_len b f (i + 1); simp; omega
      · have := toks_len b f (i + (long b i).1); simp; omega
    · simp
theorem tokens_len (b : List UInt8) : (tokens b).length ≤ b.length := toks_len b _ _

end Go.Proofs.Ytpplboihlndfpaa.Dx
