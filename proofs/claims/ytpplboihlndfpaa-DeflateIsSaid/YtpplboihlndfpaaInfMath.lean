/-
  Package inflate as functions on lists: sums, codes, bits, symbols, blocks; what each of its functions answers. Nothing of the program is named here.
-/
import Derived.Lib.ItoaNum
import Derived.KernelRfl
namespace Go.Proofs.Ytpplboihlndfpaa.Ix
set_option linter.unusedSimpArgs false
set_option linter.unusedVariables false

/-- Both sums of Adler, on their way. -/
def adlerGo : List UInt8 → Nat → Nat → Nat × Nat
  | [], a, c => (a, c)
  | v :: r, a, c => adlerGo r ((a + v.toNat) % 65521) ((c + (a + v.toNat) % 65521) % 65521)
def adler (l : List UInt8) : Nat := (adlerGo l 1 0).2 * 65536 + (adlerGo l 1 0).1
theorem adlerGo_lt : ∀ (l : List UInt8) (a c : Nat), a < 65521 → c < 65521 → (adlerGo l a c).1 < 65521 ∧ (adlerGo l a c).2 < 65521
  | [], a, c, ha, hc => ⟨ha, hc⟩
  | v :: r, a, c, ha, hc => adlerGo_lt r _ _ (Nat.mod_lt _ (by decide)) (Nat.mod_lt _ (by decide))
theorem adlerGo_step (l : List UInt8) (i : Nat) (h : i < l.length) (a c : Nat) : adlerGo (l.drop i) a c = adlerGo (l.drop (i + 1)) ((a + l[i].toNat) % 65521) ((c + (a + l[i].toNat) % 65521) % 65521) := by
  rw [List.drop_eq_getElem_cons h, adlerGo]

/-- How many of the lengths are n. -/
def cnt (L : List Nat) (n : Nat) : Nat := L.count n
/-- The number behind the last code of so many bits. -/
def beh (L : List Nat) : Nat → Nat
  | 0 => 0
  | n + 1 => 2 * beh L n + cnt L (n + 1)
/-- The first code of so many bits. -/
def fst (L : List Nat) (n : Nat) : Nat := if n = 0 then 0 else 2 * beh L (n - 1)
theorem beh_succ (L : List Nat) (n : Nat) : beh L (n + 1) = fst L (n + 1) + cnt L (n + 1) := by
  unfold fst; rw [if_neg (Nat.succ_ne_zero n), beh]; rfl
theorem fst_succ (L : List Nat) (n : Nat) : fst L (n + 1) = 2 * beh L n := by
  unfold fst; rw [if_neg (Nat.succ_ne_zero n)]; rfl
/-- How many lengths are none. -/
def used (L : List Nat) : Nat := L.length - cnt L 0
def lack (L : List Nat) : Bool := used L == 0 || (used L == 1 && cnt L 1 == 1)
def whole (L : List Nat) : Bool := beh L 15 == 32768
/-- The code of the i-th. -/
def code (L : List Nat) (i : Nat) : Nat := if L.getD i 0 = 0 then 0 else fst L (L.getD i 0) + cnt (L.take i) (L.getD i 0)
def codes (L : List Nat) : List Nat := (List.range L.length).map (code L)
/-- Is there a tree? -/
def isTree (L : List Nat) : Bool := whole L || lack L

theorem cnt_le (L : List Nat) (n : Nat) : cnt L n ≤ L.length := List.count_le_length
theorem beh_le (L : List Nat) : ∀ n, beh L n ≤ L.length * (2 ^ n - 1)
  | 0 => Nat.zero_le _
  | n + 1 => by
    have h1 := beh_le L n
    have h2 := cnt_le L (n + 1)
    have hp : 1 ≤ 2 ^ n := Nat.one_le_two_pow
    rw [beh]
    have : L.length * (2 ^ (n + 1) - 1) = 2 * (L.length * (2 ^ n - 1)) + L.length := by
      have e : 2 ^ (n + 1) - 1 = 2 * (2 ^ n - 1) + 1 := by rw [Nat.pow_succ]; omega
      rw [e, Nat.mul_add, Nat.mul_one, Nat.mul_left_comm]
    omega
theorem cnt_take_succ (L : List Nat) (i : Nat) (h : i < L.length) (n : Nat) : cnt (L.take (i + 1)) n = cnt (L.take i) n + if L[i] = n then 1 else 0 := by
  unfold cnt
  rw [List.take_succ_eq_append_getElem h, List.count_append, List.count_singleton]
  by_cases e : L[i] = n
  · simp [e]
  · rw [if_neg e, if_neg (by simpa using e)]
theorem cnt_take_le (L : List Nat) (i n : Nat) : cnt (L.take i) n ≤ cnt L n := by
  unfold cnt
  exact (List.take_sublist i L).count_le n
theorem cnt_take_lt (L : List Nat) (i : Nat) (h : i < L.length) : cnt (L.take i) L[i] < cnt L L[i] := by
  have h1 := cnt_take_succ L i h L[i]
  have h2 := cnt_take_le L (i + 1) L[i]
  rw [if_pos rfl] at h1
  omega

/-- From one length to a longer one the number behind grows by half as many bits more at least. -/
theorem beh_grow (L : List Nat) (n : Nat) : ∀ d, 2 ^ d * beh L n ≤ beh L (n + d)
  | 0 => by simp
  | d + 1 => by
    have h := beh_grow L n d
    rw [← Nat.add_assoc, beh, Nat.pow_succ, Nat.mul_comm (2 ^ d) 2, Nat.mul_assoc]
    omega
theorem beh_fits {L : List Nat} (h : whole L = true) (n : Nat) (hn : n ≤ 15) : beh L n ≤ 2 ^ n := by
  have h1 := beh_grow L n (15 - n)
  rw [show n + (15 - n) = 15 by omega, beq_iff_eq.1 h] at h1
  have : (2 : Nat) ^ 15 = 2 ^ (15 - n) * 2 ^ n := by rw [← Nat.pow_add]; congr 1; omega
  rw [show 32768 = 2 ^ 15 by decide, this] at h1
  exact Nat.le_of_mul_le_mul_left h1 (Nat.two_pow_pos _)
theorem code_lt (L : List Nat) (i : Nat) (h : i < L.length) (h0 : 0 < L[i]) : fst L L[i] ≤ code L i ∧ code L i < beh L L[i] := by
  have hg : L.getD i 0 = L[i] := by simp [List.getD, h]
  unfold code
  rw [hg, if_neg (by omega)]
  have h1 := cnt_take_lt L i h
  obtain ⟨m, hm⟩ : ∃ m, L[i] = m + 1 := ⟨L[i] - 1, by omega⟩
  rw [hm] at h1 ⊢
  rw [beh_succ]
  omega

/-- Where a length stands. -/
def pos (L : List Nat) (n : Nat) : List Nat := (List.range L.length).filter fun i => L.getD i 0 == n
theorem pos_nil (n : Nat) : pos [] n = [] := rfl
theorem pos_take (L : List Nat) (i : Nat) (h : i < L.length) (n : Nat) : pos (L.take (i + 1)) n = pos (L.take i) n ++ if L[i] = n then [i] else [] := by
  unfold pos
  have h1 : (L.take (i + 1)).length = i + 1 := by rw [List.length_take]; omega
  have h2 : (L.take i).length = i := by rw [List.length_take]; omega
  rw [h1, h2, List.range_succ, List.filter_append]
  congr 1
  · apply List.filter_congr
    intro j hj
    have hj := List.mem_range.1 hj
    simp [List.getD, List.getElem?_take, hj, show j < i + 1 by omega]
  · by_cases e : L[i] = n
    · rw [if_pos e, List.filter_cons_of_pos]; rfl
      simp [List.getD, List.getElem?_take, h, e]
    · rw [if_neg e, List.filter_cons_of_neg]; rfl
      simp [List.getD, List.getElem?_take, h, e]
theorem pos_take_len (L : List Nat) (n : Nat) : ∀ i, i ≤ L.length → (pos (L.take i) n).length = cnt (L.take i) n
  | 0, _ => by simp [pos, cnt]
  | i + 1, h => by
    rw [pos_take L i h, cnt_take_succ L i h, List.length_append, pos_take_len L n i (by omega)]
    by_cases e : L[i] = n
    · simp [e]
    · simp [e]
theorem pos_len (L : List Nat) (n : Nat) : (pos L n).length = cnt L n := by
  have := pos_take_len L n L.length (Nat.le_refl _)
  rwa [List.take_length] at this

/-- The bit at a place. -/
def bitAt (B : List UInt8) (t : Nat) : Nat := (B.getD (t / 8) 0).toNat / 2 ^ (t % 8) % 2
theorem bitAt_lt (B : List UInt8) (t : Nat) : bitAt B t < 2 := Nat.mod_lt _ (by decide)
/-- So many bits from a place on, the lowest one first. -/
def numAt (B : List UInt8) : Nat → Nat → Nat
  | 0, _ => 0
  | n + 1, t => numAt B n t + bitAt B (t + n) * 2 ^ n
theorem numAt_lt (B : List UInt8) (t : Nat) : ∀ n, numAt B n t < 2 ^ n
  | 0 => by simp [numAt]
  | n + 1 => by
    have h := numAt_lt B t n
    have hb := bitAt_lt B (t + n)
    rw [numAt, Nat.pow_succ]
    have : bitAt B (t + n) * 2 ^ n ≤ 1 * 2 ^ n := Nat.mul_le_mul_right _ (by omega)
    omega

/-- The symbol that a code of n bits or more has, with those ahead as c. -/
def symGo (L : List Nat) (B : List UInt8) : Nat → Nat → Nat → Nat → Except Int (Nat × Nat)
  | 0, _, _, _ => .error 3
  | k + 1, n, c, t => if t < 8 * B.length then
      if fst L n ≤ 2 * c + bitAt B t ∧ 2 * c + bitAt B t < beh L n then .ok ((pos L n).getD (2 * c + bitAt B t - fst L n) 0, t + 1) else symGo L B k (n + 1) (2 * c + bitAt B t) (t + 1)
    else .error 4
def sym (L : List Nat) (B : List UInt8) (t : Nat) : Except Int (Nat × Nat) := symGo L B 15 1 0 t

/-- A number of a span: how many bits it has, and where it begins. -/
def spanN (s e : Nat) : Nat := if s < 2 * e then 0 else s / e - 1
def spanB (s e : Nat) : Nat := if s < 2 * e then s else (e + s % e) * 2 ^ (s / e - 1)
def spanV (B : List UInt8) (s e t : Nat) : Except Int (Nat × Nat) := if t + spanN s e ≤ 8 * B.length then .ok (spanB s e + numAt B (spanN s e) t, t + spanN s e) else .error 4
def lenV (B : List UInt8) (s t : Nat) : Except Int (Nat × Nat) :=
  if s = 285 then .ok (258, t) else match spanV B (s - 257) 4 t with
    | .error e => .error e
    | .ok (v, t') => .ok (3 + v, t')
def distV (D : List Nat) (B : List UInt8) (t : Nat) : Except Int (Nat × Nat) :=
  match sym D B t with
  | .error e => .error e
  | .ok (s, t') => if 29 < s then .error 3 else match spanV B s 2 t' with
    | .error e => .error e
    | .ok (v, t'') => .ok (1 + v, t'')
/-- A byte more. -/
def putV' (out : List UInt8) (v : UInt8) : Except Int (List UInt8) := if out.length = 1048576 then .error 6 else .ok (out ++ [v])
def againGo (back : Nat) : Nat → List UInt8 → Except Int (List UInt8)
  | 0, out => .ok out
  | n + 1, out => match putV' out (out.getD (out.length - back) 0) with
    | .error e => .error e
    | .ok out' => againGo back n out'
def againV (n back : Nat) (out : List UInt8) : Except Int (List UInt8) := if out.length < back then .error 3 else againGo back n out
def storedGo (B : List UInt8) : Nat → Nat → List UInt8 → Except Int (List UInt8 × Nat)
  | 0, t, out => .ok (out, t)
  | n + 1, t, out => if t / 8 = B.length then .error 4 else match putV' out (B.getD (t / 8) 0) with
    | .error e => .error e
    | .ok out' => storedGo B n (t + 8) out'
def up8 (t : Nat) : Nat := (t + 7) / 8 * 8
def storedV (B : List UInt8) (t : Nat) (out : List UInt8) : Except Int (List UInt8 × Nat) :=
  if up8 t + 32 ≤ 8 * B.length then
    if numAt B 16 (up8 t) + numAt B 16 (up8 t + 16) = 65535 then storedGo B (numAt B 16 (up8 t)) (up8 t + 32) out else .error 3
  else .error 4
/-- Symbols up to the one that ends them. -/
def pressGo (S D : List Nat) (B : List UInt8) : Nat → Nat → List UInt8 → Except Int (List UInt8 × Nat)
  | 0, _, _ => .error 0
  | f + 1, t, out => match sym S B t with
    | .error e => .error e
    | .ok (s, t') =>
      if s < 256 then match putV' out (UInt8.ofNat s) with
        | .error e => .error e
        | .ok out' => pressGo S D B f t' out'
      else if s = 256 then .ok (out, t')
      else if 285 < s then .error 3
      else match lenV B s t' with
        | .error e => .error e
        | .ok (n, t'') => match distV D B t'' with
          | .error e => .error e
          | .ok (back, t3) => match againV n back out with
            | .error e => .error e
            | .ok out' => pressGo S D B f t3 out'
def fixS : List Nat := List.replicate 144 8 ++ List.replicate 112 9 ++ List.replicate 24 7 ++ List.replicate 8 8
def fixD : List Nat := List.replicate 32 5

end Go.Proofs.Ytpplboihlndfpaa.Ix
