/-
  Package inflate as functions on lists: sums, codes, bits, symbols, blocks; what each of its functions answers. Nothing of the program is named here.
  Sums of bytes that differ in one byte; codes of lengths: none begins another, each fits into its bits.
  A block's own trees, as functions on lists.
  Codes, length by length: what is known within a round.
  Blocks, one behind another, and what stands around them, as functions on bytes.
  Letters, each by its code of the kind 1: what blocks tell of them.
  Bytes in blocks of the kind 0: what blocks tell of them, whole and cut off.
  What stands behind what is told says nothing.
  Bits in bytes, each byte's lowest one first; the bits of letters.
  Package deflate as functions on lists: matches, tokens, and what tokens are as bytes. Nothing of the program is named here.
  Tokens as bits, bits as bytes; bytes in blocks. Nothing of the program is named here.
  What was pressed is told again: tokens by their codes, bytes in one block of the kind 0, what stands around them.
-/
import Derived.Lib.ItoaNum
import Derived.KernelRfl
namespace Go.Proofs.YtpplboihlndfpaaDoor.Ix
set_option linter.unusedSimpArgs false
set_option linter.unusedVariables false

/-- Both sums of Adler, on their way. -/
def adlerGo : List UInt8 → Nat → Nat → Nat × Nat
  | [], a, c => (a, c)
  | v :: r, a, c => adlerGo r ((a + v.toNat) % 65521) ((c + (a + v.toNat) % 65521) % 65521)
def adler (l : List UInt8) : Nat := (adlerGo l 1 0).2 * 65536 + (adlerGo l 1 0).1
theorem adlerGo_lt : ∀ (l : List UInt8) (a c : Nat), a < 65521 → c < 65521 → (adlerGo l a c).1 < 65521 ∧ (adlerGo l a c).2 < 65521
  | [], a, c, ha, hc => ⟨ha, hc⟩
  | v :: r, a, c, ha, hc => adlerGo_lt r _ _ (Nat.mod_lt _ (by decide)) (Nat.mod_lt _ (by decide))
theorem adlerGo_step (l : List UInt8) (i : Nat) (h : i < l.length) (a c : Nat) : adlerGo (l.drop i) a c = adlerGo (l.drop (i + 1)) ((a + l[i].toNat) % 65521) ((c + (a + l[i].toNat) % 65521) % 65521) := by
  rw [List.drop_eq_getElem_cons h, adlerGo]

/-- How many of the lengths are n. -/
def cnt (L : List Nat) (n : Nat) : Nat := L.count n
/-- The number behind the last code of so many bits. -/
def beh (L : List Nat) : Nat → Nat
  | 0 => 0
  | n + 1 => 2 * beh L n + cnt L (n + 1)
/-- The first code of so many bits. -/
def fst (L : List Nat) (n : Nat) : Nat := if n = 0 then 0 else 2 * beh L (n - 1)
theorem beh_succ (L : List Nat) (n : Nat) : beh L (n + 1) = fst L (n + 1) + cnt L (n + 1) := by
  unfold fst; rw [if_neg (Nat.succ_ne_zero n), beh]; rfl
theorem fst_succ (L : List Nat) (n : Nat) : fst L (n + 1) = 2 * beh L n := by
  unfold fst; rw [if_neg (Nat.succ_ne_zero n)]; rfl
/-- How many lengths are none. -/
def used (L : List Nat) : Nat := L.length - cnt L 0
def lack (L : List Nat) : Bool := used L == 0 || (used L == 1 && cnt L 1 == 1)
def whole (L : List Nat) : Bool := beh L 15 == 32768
/-- The code of the i-th. -/
def code (L : List Nat) (i : Nat) : Nat := if L.getD i 0 = 0 then 0 else fst L (L.getD i 0) + cnt (L.take i) (L.getD i 0)
def codes (L : List Nat) : List Nat := (List.range L.length).map (code L)
/-- Is there a tree? -/
def isTree (L : List Nat) : Bool := whole L || lack L

theorem cnt_le (L : List Nat) (n : Nat) : cnt L n ≤ L.length := List.count_le_length
theorem beh_le (L : List Nat) : ∀ n, beh L n ≤ L.length * (2 ^ n - 1)
  | 0 => Nat.zero_le _
  | n + 1 => by
    have h1 := beh_le L n
    have h2 := cnt_le L (n + 1)
    have hp : 1 ≤ 2 ^ n := Nat.one_le_two_pow
    rw [beh]
    have : L.length * (2 ^ (n + 1) - 1) = 2 * (L.length * (2 ^ n - 1)) + L.length := by
      have e : 2 ^ (n + 1) - 1 = 2 * (2 ^ n - 1) + 1 := by rw [Nat.pow_succ]; omega
      rw [e, Nat.mul_add, Nat.mul_one, Nat.mul_left_comm]
    omega
theorem cnt_take_succ (L : List Nat) (i : Nat) (h : i < L.length) (n : Nat) : cnt (L.take (i + 1)) n = cnt (L.take i) n + if L[i] = n then 1 else 0 := by
  unfold cnt
  rw [List.take_succ_eq_append_getElem h, List.count_append, List.count_singleton]
  by_cases e : L[i] = n
  · simp [e]
  · rw [if_neg e, if_neg (by simpa using e)]
theorem cnt_take_le (L : List Nat) (i n : Nat) : cnt (L.take i) n ≤ cnt L n := by
  unfold cnt
  exact (List.take_sublist i L).count_le n
theorem cnt_take_lt (L : List Nat) (i : Nat) (h : i < L.length) : cnt (L.take i) L[i] < cnt L L[i] := by
  have h1 := cnt_take_succ L i h L[i]
  have h2 := cnt_take_le L (i + 1) L[i]
  rw [if_pos rfl] at h1
  omega

/-- From one length to a longer one the number behind grows by half as many bits more at least. -/
theorem beh_grow (L : List Nat) (n : Nat) : ∀ d, 2 ^ d * beh L n ≤ beh L (n + d)
  | 0 => by simp
  | d + 1 => by
    have h := beh_grow L n d
    rw [← Nat.add_assoc, beh, Nat.pow_succ, Nat.mul_comm (2 ^ d) 2, Nat.mul_assoc]
    omega
theorem beh_fits {L : List Nat} (h : whole L = true) (n : Nat) (hn : n ≤ 15) : beh L n ≤ 2 ^ n := by
  have h1 := beh_grow L n (15 - n)
  rw [show n + (15 - n) = 15 by omega, beq_iff_eq.1 h] at h1
  have : (2 : Nat) ^ 15 = 2 ^ (15 - n) * 2 ^ n := by rw [← Nat.pow_add]; congr 1; omega
  rw [show 32768 = 2 ^ 15 by decide, this] at h1
  exact Nat.le_of_mul_le_mul_left h1 (Nat.two_pow_pos _)
theorem code_lt (L : List Nat) (i : Nat) (h : i < L.length) (h0 : 0 < L[i]) : fst L L[i] ≤ code L i ∧ code L i < beh L L[i] := by
  have hg : L.getD i 0 = L[i] := by simp [List.getD, h]
  unfold code
  rw [hg, if_neg (by omega)]
  have h1 := cnt_take_lt L i h
  obtain ⟨m, hm⟩ : ∃ m, L[i] = m + 1 := ⟨L[i] - 1, by omega⟩
  rw [hm] at h1 ⊢
  rw [beh_succ]
  omega

/-- Where a length stands. -/
def pos (L : List Nat) (n : Nat) : List Nat := (List.range L.length).filter fun i => L.getD i 0 == n
theorem pos_nil (n : Nat) : pos [] n = [] := rfl
theorem pos_take (L : List Nat) (i : Nat) (h : i < L.length) (n : Nat) : pos (L.take (i + 1)) n = pos (L.take i) n ++ if L[i] = n then [i] else [] := by
  unfold pos
  have h1 : (L.take (i + 1)).length = i + 1 := by rw [List.length_take]; omega
  have h2 : (L.take i).length = i := by rw [List.length_take]; omega
  rw [h1, h2, List.range_succ, List.filter_append]
  congr 1
  · apply List.filter_congr
    intro j hj
    have hj := List.mem_range.1 hj
    simp [List.getD, List.getElem?_take, hj, show j < i + 1 by omega]
  · by_cases e : L[i] = n
    · rw [if_pos e, List.filter_cons_of_pos]; rfl
      simp [List.getD, List.getElem?_take, h, e]
    · rw [if_neg e, List.filter_cons_of_neg]; rfl
      simp [List.getD, List.getElem?_take, h, e]
theorem pos_take_len (L : List Nat) (n : Nat) : ∀ i, i ≤ L.length → (pos (L.take i) n).length = cnt (L.take i) n
  | 0, _ => by simp [pos, cnt]
  | i + 1, h => by
    rw [pos_take L i h, cnt_take_succ L i h, List.length_append, pos_take_len L n i (by omega)]
    by_cases e : L[i] = n
    · simp [e]
    · simp [e]
theorem pos_len (L : List Nat) (n : Nat) : (pos L n).length = cnt L n := by
  have := pos_take_len L n L.length (Nat.le_refl _)
  rwa [List.take_length] at this

/-- The bit at a place. -/
def bitAt (B : List UInt8) (t : Nat) : Nat := (B.getD (t / 8) 0).toNat / 2 ^ (t % 8) % 2
theorem bitAt_lt (B : List UInt8) (t : Nat) : bitAt B t < 2 := Nat.mod_lt _ (by decide)
/-- So many bits from a place on, the lowest one first. -/
def numAt (B : List UInt8) : Nat → Nat → Nat
  | 0, _ => 0
  | n + 1, t => numAt B n t + bitAt B (t + n) * 2 ^ n
theorem numAt_lt (B : List UInt8) (t : Nat) : ∀ n, numAt B n t < 2 ^ n
  | 0 => by simp [numAt]
  | n + 1 => by
    have h := numAt_lt B t n
    have hb := bitAt_lt B (t + n)
    rw [numAt, Nat.pow_succ]
    have : bitAt B (t + n) * 2 ^ n ≤ 1 * 2 ^ n := Nat.mul_le_mul_right _ (by omega)
    omega

/-- The symbol that a code of n bits or more has, with those ahead as c. -/
def symGo (L : List Nat) (B : List UInt8) : Nat → Nat → Nat → Nat → Except Int (Nat × Nat)
  | 0, _, _, _ => .error 3
  | k + 1, n, c, t => if t < 8 * B.length then
      if fst L n ≤ 2 * c + bitAt B t ∧ 2 * c + bitAt B t < beh L n then .ok ((pos L n).getD (2 * c + bitAt B t - fst L n) 0, t + 1) else symGo L B k (n + 1) (2 * c + bitAt B t) (t + 1)
    else .error 4
def sym (L : List Nat) (B : List UInt8) (t : Nat) : Except Int (Nat × Nat) := symGo L B 15 1 0 t

/-- A number of a span: how many bits it has, and where it begins. -/
def spanN (s e : Nat) : Nat := if s < 2 * e then 0 else s / e - 1
def spanB (s e : Nat) : Nat := if s < 2 * e then s else (e + s % e) * 2 ^ (s / e - 1)
def spanV (B : List UInt8) (s e t : Nat) : Except Int (Nat × Nat) := if t + spanN s e ≤ 8 * B.length then .ok (spanB s e + numAt B (spanN s e) t, t + spanN s e) else .error 4
def lenV (B : List UInt8) (s t : Nat) : Except Int (Nat × Nat) :=
  if s = 285 then .ok (258, t) else match spanV B (s - 257) 4 t with
    | .error e => .error e
    | .ok (v, t') => .ok (3 + v, t')
def distV (D : List Nat) (B : List UInt8) (t : Nat) : Except Int (Nat × Nat) :=
  match sym D B t with
  | .error e => .error e
  | .ok (s, t') => if 29 < s then .error 3 else match spanV B s 2 t' with
    | .error e => .error e
    | .ok (v, t'') => .ok (1 + v, t'')
/-- A byte more. -/
def putV' (out : List UInt8) (v : UInt8) : Except Int (List UInt8) := if out.length = 1048576 then .error 6 else .ok (out ++ [v])
def againGo (back : Nat) : Nat → List UInt8 → Except Int (List UInt8)
  | 0, out => .ok out
  | n + 1, out => match putV' out (out.getD (out.length - back) 0) with
    | .error e => .error e
    | .ok out' => againGo back n out'
def againV (n back : Nat) (out : List UInt8) : Except Int (List UInt8) := if out.length < back then .error 3 else againGo back n out
def storedGo (B : List UInt8) : Nat → Nat → List UInt8 → Except Int (List UInt8 × Nat)
  | 0, t, out => .ok (out, t)
  | n + 1, t, out => if t / 8 = B.length then .error 4 else match putV' out (B.getD (t / 8) 0) with
    | .error e => .error e
    | .ok out' => storedGo B n (t + 8) out'
def up8 (t : Nat) : Nat := (t + 7) / 8 * 8
def storedV (B : List UInt8) (t : Nat) (out : List UInt8) : Except Int (List UInt8 × Nat) :=
  if up8 t + 32 ≤ 8 * B.length then
    if numAt B 16 (up8 t) + numAt B 16 (up8 t + 16) = 65535 then storedGo B (numAt B 16 (up8 t)) (up8 t + 32) out else .error 3
  else .error 4
/-- Symbols up to the one that ends them. -/
def pressGo (S D : List Nat) (B : List UInt8) : Nat → Nat → List UInt8 → Except Int (List UInt8 × Nat)
  | 0, _, _ => .error 0
  | f + 1, t, out => match sym S B t with
    | .error e => .error e
    | .ok (s, t') =>
      if s < 256 then match putV' out (UInt8.ofNat s) with
        | .error e => .error e
        | .ok out' => pressGo S D B f t' out'
      else if s = 256 then .ok (out, t')
      else if 285 < s then .error 3
      else match lenV B s t' with
        | .error e => .error e
        | .ok (n, t'') => match distV D B t'' with
          | .error e => .error e
          | .ok (back, t3) => match againV n back out with
            | .error e => .error e
            | .ok out' => pressGo S D B f t3 out'
def fixS : List Nat := List.replicate 144 8 ++ List.replicate 112 9 ++ List.replicate 24 7 ++ List.replicate 8 8
def fixD : List Nat := List.replicate 32 5

end Go.Proofs.YtpplboihlndfpaaDoor.Ix

namespace Go.Proofs.YtpplboihlndfpaaDoor.Ix
set_option linter.unusedSimpArgs false
set_option linter.unusedVariables false

def total : List UInt8 → Nat
  | [] => 0
  | v :: r => v.toNat + total r
theorem adlerGo_fst : ∀ (l : List UInt8) (a c : Nat), a < 65521 → (adlerGo l a c).1 = (a + total l) % 65521
  | [], a, c, ha => by simp [adlerGo, total, Nat.mod_eq_of_lt ha]
  | v :: r, a, c, ha => by
    rw [adlerGo, adlerGo_fst r _ _ (Nat.mod_lt _ (by decide)), total]
    omega
theorem total_set : ∀ (l : List UInt8) (k : Nat) (v : UInt8) (h : k < l.length), total (l.set k v) + l[k].toNat = total l + v.toNat
  | x :: r, 0, v, _ => by simp [total]; omega
  | x :: r, k + 1, v, h => by
    have := total_set r k v (by simpa using h)
    simp only [List.set_cons_succ, total, List.getElem_cons_succ]
    omega
theorem adler_set (l : List UInt8) (k : Nat) (v : UInt8) (h : k < l.length) (hv : v ≠ l[k]) : adler l ≠ adler (l.set k v) := by
  intro e
  have h1 := adlerGo_lt l 1 0 (by decide) (by decide)
  have h2 := adlerGo_lt (l.set k v) 1 0 (by decide) (by decide)
  have e1 := adlerGo_fst l 1 0 (by decide)
  have e2 := adlerGo_fst (l.set k v) 1 0 (by decide)
  have hs := total_set l k v h
  unfold adler at e
  have ha : (adlerGo l 1 0).1 = (adlerGo (l.set k v) 1 0).1 := by omega
  rw [e1, e2] at ha
  have b1 := v.toNat_lt
  have b2 := l[k].toNat_lt
  have hne : v.toNat ≠ l[k].toNat := fun e => hv (UInt8.toNat_inj.1 e)
  omega
theorem adler_lt (l : List UInt8) : adler l < 4294967296 := by
  have h1 := adlerGo_lt l 1 0 (by decide) (by decide)
  unfold adler
  omega

theorem cnt_take_mono (L : List Nat) (i j n : Nat) (h : i ≤ j) : cnt (L.take i) n ≤ cnt (L.take j) n := by
  have : L.take i = (L.take j).take i := by rw [List.take_take, Nat.min_eq_left h]
  rw [this]
  exact cnt_take_le _ _ _
theorem fst_grow (L : List Nat) (n d : Nat) : 2 ^ (d + 1) * beh L n ≤ fst L (n + d + 1) := by
  have := beh_grow L n d
  rw [fst_succ, Nat.pow_succ, Nat.mul_comm (2 ^ d) 2, Nat.mul_assoc]
  omega
theorem code_eq (L : List Nat) (i : Nat) (h : i < L.length) (h0 : 0 < L[i]) : code L i = fst L L[i] + cnt (L.take i) L[i] := by
  have hg : L.getD i 0 = L[i] := by simp [List.getD, h]
  unfold code
  rw [hg, if_neg (by omega)]
theorem code_ne (L : List Nat) (i k : Nat) (hi : i < L.length) (hk : k < L.length) (h0 : 0 < L[i]) (he : L[k] = L[i]) (hlt : i < k) : code L i < code L k := by
  rw [code_eq L i hi h0, code_eq L k hk (by omega), he]
  have h1 := cnt_take_succ L i hi L[i]
  rw [if_pos rfl] at h1
  have h2 := cnt_take_mono L (i + 1) k L[i] hlt
  omega
theorem code_apart (L : List Nat) (i k : Nat) (hi : i < L.length) (hk : k < L.length) (h0 : 0 < L[i]) (hle : L[i] ≤ L[k]) (hne : k ≠ i) : code L k / 2 ^ (L[k] - L[i]) ≠ code L i := by
  by_cases he : L[k] = L[i]
  · rw [he, Nat.sub_self, Nat.pow_zero, Nat.div_one]
    rcases Nat.lt_or_gt_of_ne hne with h | h
    · have := code_ne L k i hk hi (by omega) he.symm h; omega
    · have := code_ne L i k hi hk h0 he h; omega
  · obtain ⟨d, hd⟩ : ∃ d, L[k] = L[i] + d + 1 := ⟨L[k] - L[i] - 1, by omega⟩
    have h1 := (code_lt L i hi h0).2
    have h2 := (code_lt L k hk (by omega)).1
    have h3 := fst_grow L L[i] d
    rw [hd] at h2 ⊢
    rw [show L[i] + d + 1 - L[i] = d + 1 by omega]
    have : beh L L[i] ≤ code L k / 2 ^ (d + 1) := by
      rw [Nat.le_div_iff_mul_le (Nat.two_pow_pos _), Nat.mul_comm]
      omega
    omega

theorem cnt_three (m : Nat) (h0 : m ≠ 0) (h1 : m ≠ 1) : ∀ L : List Nat, cnt L 0 + cnt L 1 + cnt L m ≤ L.length
  | [] => by simp [cnt]
  | x :: r => by
    have := cnt_three m h0 h1 r
    unfold cnt at *
    simp only [List.count_cons, List.length_cons]
    by_cases e0 : x = 0
    · subst e0; simp [Ne.symm h0]; omega
    · by_cases e1 : x = 1
      · subst e1; simp [Ne.symm h1]; omega
      · by_cases em : x = m
        · subst em; simp [e0, e1]; omega
        · simp [e0, e1, em]; omega
theorem cnt_pos (L : List Nat) (i : Nat) (h : i < L.length) : 1 ≤ cnt L L[i] := by
  have := cnt_take_lt L i h; omega
theorem cnt_two (m : Nat) (h0 : m ≠ 0) : ∀ L : List Nat, cnt L 0 + cnt L m ≤ L.length
  | [] => by simp [cnt]
  | x :: r => by
    have := cnt_two m h0 r
    unfold cnt at *
    simp only [List.count_cons, List.length_cons]
    by_cases e0 : x = 0
    · subst e0; simp [Ne.symm h0]; omega
    · by_cases em : x = m
      · subst em; simp [e0]; omega
      · simp [e0, em]; omega
theorem code_fits (L : List Nat) (h15 : ∀ x ∈ L, x ≤ 15) (ht : isTree L = true) (i : Nat) (h : i < L.length) : code L i < 2 ^ L[i] := by
  by_cases h0 : L[i] = 0
  · have hg : L.getD i 0 = L[i] := by simp [List.getD, h]
    unfold code
    rw [hg, if_pos h0, h0]; decide
  · have h1 := code_lt L i h (by omega)
    unfold isTree at ht
    by_cases hw : whole L = true
    · have := beh_fits hw L[i] (h15 _ (List.getElem_mem h)); omega
    · have hw := Bool.eq_false_iff.2 hw
      rw [hw, Bool.false_or] at ht
      unfold lack at ht
      have hp := cnt_pos L i h
      have h2 := cnt_two L[i] h0 L
      have hl := cnt_le L 0
      unfold used at ht
      rw [Bool.or_eq_true, Bool.and_eq_true, beq_iff_eq, beq_iff_eq, beq_iff_eq] at ht
      rcases ht with ht | ⟨ht, hc⟩
      · omega
      · by_cases e1 : L[i] = 1
        · rw [e1] at h1 ⊢
          have : beh L 1 = cnt L 1 := by rw [beh_succ]; simp [fst, beh]
          omega
        · have := cnt_three L[i] h0 e1 L; omega

end Go.Proofs.YtpplboihlndfpaaDoor.Ix

namespace Go.Proofs.YtpplboihlndfpaaDoor.Ix
set_option linter.unusedSimpArgs false
set_option linter.unusedVariables false

/-- In which order the lengths of the tree stand by which the others are told. -/
def ordL : List Nat := [16, 17, 18, 0, 8, 7, 9, 6, 10, 5, 11, 4, 12, 3, 13, 2, 14, 1, 15]
/-- When i of them are told. -/
def shortTo (B : List UInt8) (t : Nat) : Nat → Nat → Nat
  | 0, _ => 0
  | i + 1, s => if s = ordL.getD i 0 then numAt B 3 (t + 3 * i) else shortTo B t i s
def shortL (B : List UInt8) (k t : Nat) : List Nat := (List.range 19).map (shortTo B t k)
/-- A length, and how many times. -/
def runV (B : List UInt8) (s t : Nat) (acc : List Nat) : Except Int (Nat × Nat × Nat) :=
  if s = 16 then (if acc.length = 0 then .error 3 else if t + 2 ≤ 8 * B.length then .ok (acc.getD (acc.length - 1) 0, 3 + numAt B 2 t, t + 2) else .error 4)
  else if s = 17 then (if t + 3 ≤ 8 * B.length then .ok (0, 3 + numAt B 3 t, t + 3) else .error 4)
  else if s = 18 then (if t + 7 ≤ 8 * B.length then .ok (0, 11 + numAt B 7 t, t + 7) else .error 4)
  else .ok (s, 1, t)
def lensGo (S : List Nat) (B : List UInt8) (all : Nat) : Nat → Nat → List Nat → Except Int (List Nat × Nat)
  | 0, _, _ => .error 0
  | f + 1, t, acc => if all ≤ acc.length then .ok (acc, t) else match sym S B t with
    | .error e => .error e
    | .ok (s, t1) => match runV B s t1 acc with
      | .error e => .error e
      | .ok (n, times, t2) => if all - acc.length < times then .error 3 else lensGo S B all f t2 (acc ++ List.replicate times n)
/-- What is told of so many lengths, as trees. -/
def ownEnd (n : Nat) : Except Int (List Nat × Nat) → Except Int (List Nat × List Nat × Nat)
  | .error e => .error e
  | .ok (l, t') => if l.getD 256 0 = 0 then .error 3 else if isTree (l.take n) = false then .error 3 else if isTree (l.drop n) = false then .error 3 else .ok (l.take n, l.drop n, t')
def ownV (B : List UInt8) (t : Nat) : Except Int (List Nat × List Nat × Nat) :=
  if t + 14 ≤ 8 * B.length then
    if 286 < numAt B 5 t + 257 ∨ 30 < numAt B 5 (t + 5) + 1 then .error 3
    else if t + 14 + 3 * (numAt B 4 (t + 10) + 4) ≤ 8 * B.length then
      if isTree (shortL B (numAt B 4 (t + 10) + 4) (t + 14)) = false then .error 3
      else ownEnd (numAt B 5 t + 257) (lensGo (shortL B (numAt B 4 (t + 10) + 4) (t + 14)) B (numAt B 5 t + 257 + (numAt B 5 (t + 5) + 1)) (numAt B 5 t + 257 + (numAt B 5 (t + 5) + 1) + 1) (t + 14 + 3 * (numAt B 4 (t + 10) + 4)) [])
    else .error 4
  else .error 4

theorem symGo_in (L : List Nat) (B : List UInt8) : ∀ k n c t s t', 1 ≤ n → symGo L B k n c t = .ok (s, t') → s < L.length ∧ t < t' ∧ t' ≤ 8 * B.length
  | 0, n, c, t, s, t', _, h => by cases h
  | k + 1, n, c, t, s, t', h1, h => by
    rw [symGo] at h
    by_cases e : t < 8 * B.length
    · rw [if_pos e] at h
      by_cases e2 : fst L n ≤ 2 * c + bitAt B t ∧ 2 * c + bitAt B t < beh L n
      · rw [if_pos e2] at h
        injection h with h
        injection h with h3 h4
        have hp := pos_len L n
        obtain ⟨m, rfl⟩ : ∃ m, n = m + 1 := ⟨n - 1, by omega⟩
        rw [beh_succ] at e2
        have hi : 2 * c + bitAt B t - fst L (m + 1) < (pos L (m + 1)).length := by omega
        have hm : (pos L (m + 1)).getD (2 * c + bitAt B t - fst L (m + 1)) 0 ∈ pos L (m + 1) := by
          simp only [List.getD, List.getElem?_eq_getElem hi, Option.getD_some]
          exact List.getElem_mem hi
        rw [h3] at hm
        unfold pos at hm
        rw [List.mem_filter, List.mem_range] at hm
        exact ⟨hm.1, by omega, by omega⟩
      · rw [if_neg e2] at h
        have := symGo_in L B k (n + 1) _ _ s t' (by omega) h
        exact ⟨this.1, by omega, this.2.2⟩
    · rw [if_neg e] at h; cases h
theorem sym_in {L : List Nat} {B : List UInt8} {t s t' : Nat} (h : sym L B t = .ok (s, t')) : s < L.length ∧ t < t' ∧ t' ≤ 8 * B.length := symGo_in L B _ _ _ _ _ _ (Nat.le_refl _) h
theorem shortL_len (B : List UInt8) (k t : Nat) : (shortL B k t).length = 19 := by simp [shortL]
theorem shortTo_lt (B : List UInt8) (t : Nat) : ∀ i s, shortTo B t i s < 8
  | 0, s => by simp [shortTo]
  | i + 1, s => by
    rw [shortTo]
    split
    · exact numAt_lt B _ 3
    · exact shortTo_lt B t i s
theorem shortL_le (B : List UInt8) (k t : Nat) : ∀ x ∈ shortL B k t, x ≤ 15 := by
  intro x hx
  unfold shortL at hx
  rw [List.mem_map] at hx
  obtain ⟨s, -, rfl⟩ := hx
  have := shortTo_lt B t k s
  omega
theorem shortL_get (B : List UInt8) (k t s : Nat) (h : s < 19) : (shortL B k t)[s]'(by rw [shortL_len]; exact h) = shortTo B t k s := by simp [shortL]
theorem runV_ok {B : List UInt8} {s t n times t' : Nat} {acc : List Nat} (h : runV B s t acc = .ok (n, times, t')) (hs : s < 19) (ha : ∀ x ∈ acc, x ≤ 15) (ht : t ≤ 8 * B.length) : n ≤ 15 ∧ 1 ≤ times ∧ times ≤ 138 ∧ t ≤ t' ∧ t' ≤ 8 * B.length := by
  unfold runV at h
  have b2 := numAt_lt B t 2
  have b3 := numAt_lt B t 3
  have b7 := numAt_lt B t 7
  by_cases e1 : s = 16
  · rw [if_pos e1] at h
    by_cases e2 : acc.length = 0
    · rw [if_pos e2] at h; cases h
    · rw [if_neg e2] at h
      by_cases e3 : t + 2 ≤ 8 * B.length
      · rw [if_pos e3] at h
        injection h with h; injection h with h1 h2; injection h2 with h2 h3
        have hm : acc.getD (acc.length - 1) 0 ∈ acc := by
          rw [List.getD_eq_getElem?_getD, List.getElem?_eq_getElem (by omega), Option.getD_some]
          exact List.getElem_mem _
        have := ha _ hm
        omega
      · rw [if_neg e3] at h; cases h
  · rw [if_neg e1] at h
    by_cases e2 : s = 17
    · rw [if_pos e2] at h
      by_cases e3 : t + 3 ≤ 8 * B.length
      · rw [if_pos e3] at h
        injection h with h; injection h with h1 h2; injection h2 with h2 h3
        omega
      · rw [if_neg e3] at h; cases h
    · rw [if_neg e2] at h
      by_cases e4 : s = 18
      · rw [if_pos e4] at h
        by_cases e3 : t + 7 ≤ 8 * B.length
        · rw [if_pos e3] at h
          injection h with h; injection h with h1 h2; injection h2 with h2 h3
          omega
        · rw [if_neg e3] at h; cases h
      · rw [if_neg e4] at h
        injection h with h; injection h with h1 h2; injection h2 with h2 h3
        omega
theorem lensGo_succ (S : List Nat) (B : List UInt8) (all f t : Nat) (acc : List Nat) : lensGo S B all (f + 1) t acc = if all ≤ acc.length then .ok (acc, t) else match sym S B t with
    | .error e => .error e
    | .ok (s, t1) => match runV B s t1 acc with
      | .error e => .error e
      | .ok (n, times, t2) => if all - acc.length < times then .error 3 else lensGo S B all f t2 (acc ++ List.replicate times n) := rfl
theorem lens_end {S : List Nat} {B : List UInt8} {all f t : Nat} {acc : List Nat} (h : all ≤ acc.length) : lensGo S B all (f + 1) t acc = .ok (acc, t) := by rw [lensGo_succ, if_pos h]
theorem lens_no {S : List Nat} {B : List UInt8} {all f t : Nat} {acc : List Nat} {k : Int} (h : acc.length < all) (hs : sym S B t = .error k) : lensGo S B all (f + 1) t acc = .error k := by rw [lensGo_succ, if_neg (by omega), hs]
theorem lens_run {S : List Nat} {B : List UInt8} {all f t s t1 : Nat} {acc : List Nat} {k : Int} (h : acc.length < all) (hs : sym S B t = .ok (s, t1)) (hr : runV B s t1 acc = .error k) : lensGo S B all (f + 1) t acc = .error k := by
  rw [lensGo_succ, if_neg (by omega), hs]; simp only [hr]
theorem lens_many {S : List Nat} {B : List UInt8} {all f t s t1 n times t2 : Nat} {acc : List Nat} (h : acc.length < all) (hs : sym S B t = .ok (s, t1)) (hr : runV B s t1 acc = .ok (n, times, t2)) (hm : all - acc.length < times) : lensGo S B all (f + 1) t acc = .error 3 := by
  rw [lensGo_succ, if_neg (by omega), hs]; simp only [hr]; rw [if_pos hm]
theorem lens_step {S : List Nat} {B : List UInt8} {all f t s t1 n times t2 : Nat} {acc : List Nat} (h : acc.length < all) (hs : sym S B t = .ok (s, t1)) (hr : runV B s t1 acc = .ok (n, times, t2)) (hm : times ≤ all - acc.length) : lensGo S B all (f + 1) t acc = lensGo S B all f t2 (acc ++ List.replicate times n) := by
  rw [lensGo_succ, if_neg (by omega), hs]; simp only [hr]; rw [if_neg (by omega)]
theorem lensGo_ok (S : List Nat) (B : List UInt8) (all : Nat) (hS : S.length = 19) : ∀ f t acc l t', lensGo S B all f t acc = .ok (l, t') → acc.length ≤ all → (∀ x ∈ acc, x ≤ 15) → t ≤ 8 * B.length → l.length = all ∧ (∀ x ∈ l, x ≤ 15) ∧ t ≤ t' ∧ t' ≤ 8 * B.length
  | 0, t, acc, l, t', h, _, _, _ => by cases h
  | f + 1, t, acc, l, t', h, hl, hx, ht => by
    by_cases e : all ≤ acc.length
    · rw [lens_end e] at h
      injection h with h; injection h with h1 h2
      subst h1 h2
      exact ⟨by omega, hx, Nat.le_refl _, ht⟩
    · cases hs : sym S B t with
      | error k => rw [lens_no (by omega) hs] at h; cases h
      | ok r =>
        obtain ⟨s, t1⟩ := r
        obtain ⟨i1, i2, i3⟩ := sym_in hs
        cases hr : runV B s t1 acc with
        | error k => rw [lens_run (by omega) hs hr] at h; cases h
        | ok r =>
          obtain ⟨n, times, t2⟩ := r
          obtain ⟨j1, j2, j3, j4, j5⟩ := runV_ok hr (by omega) hx i3
          by_cases hm : all - acc.length < times
          · rw [lens_many (by omega) hs hr hm] at h; cases h
          · rw [lens_step (by omega) hs hr (by omega)] at h
            have := lensGo_ok S B all hS f t2 _ l t' h (by rw [List.length_append, List.length_replicate]; omega) (by
              intro x hx2
              rw [List.mem_append, List.mem_replicate] at hx2
              rcases hx2 with h2 | ⟨-, h2⟩
              · exact hx x h2
              · omega) j5
            exact ⟨this.1, this.2.1, by omega, this.2.2.2⟩
/-- Enough is enough. -/
theorem lensGo_no0 (S : List Nat) (B : List UInt8) (all : Nat) (hS : S.length = 19) : ∀ f t acc, all < acc.length + f → acc.length ≤ all → (∀ x ∈ acc, x ≤ 15) → t ≤ 8 * B.length → lensGo S B all f t acc = .error 0 → False
  | 0, t, acc, h1, h2, _, _, _ => by omega
  | f + 1, t, acc, h1, h2, hx, ht, h => by
    by_cases e : all ≤ acc.length
    · rw [lens_end e] at h; cases h
    · cases hs : sym S B t with
      | error k =>
        rw [lens_no (by omega) hs] at h
        injection h with h
        subst h
        exact absurd hs (by
          unfold sym
          intro h
          exact sym0 S B 15 1 0 t h)
      | ok r =>
        obtain ⟨s, t1⟩ := r
        obtain ⟨i1, i2, i3⟩ := sym_in hs
        cases hr : runV B s t1 acc with
        | error k =>
          rw [lens_run (by omega) hs hr] at h
          injection h with h
          subst h
          unfold runV at hr
          repeat (first | split at hr | cases hr)
        | ok r =>
          obtain ⟨n, times, t2⟩ := r
          obtain ⟨j1, j2, j3, j4, j5⟩ := runV_ok hr (by omega) hx i3
          by_cases hm : all - acc.length < times
          · rw [lens_many (by omega) hs hr hm] at h; cases h
          · rw [lens_step (by omega) hs hr (by omega)] at h
            exact lensGo_no0 S B all hS f t2 _ (by rw [List.length_append, List.length_replicate]; omega) (by rw [List.length_append, List.length_replicate]; omega) (by
              intro x hx2
              rw [List.mem_append, List.mem_replicate] at hx2
              rcases hx2 with h2 | ⟨-, h2⟩
              · exact hx x h2
              · omega) j5 h
where sym0 (S : List Nat) (B : List UInt8) : ∀ k n c t, symGo S B k n c t = .error 0 → False
  | 0, n, c, t, h => by cases h
  | k + 1, n, c, t, h => by
    rw [symGo] at h
    split at h
    · split at h
      · cases h
      · exact sym0 S B k _ _ _ h
    · cases h
theorem ownV_ok {B : List UInt8} {t t' : Nat} {S D : List Nat} (h : ownV B t = .ok (S, D, t')) : S.length ≤ 286 ∧ 257 ≤ S.length ∧ D.length ≤ 30 ∧ 1 ≤ D.length ∧ (∀ x ∈ S, x ≤ 15) ∧ (∀ x ∈ D, x ≤ 15) ∧ isTree S = true ∧ isTree D = true ∧ t < t' ∧ t' ≤ 8 * B.length := by
  unfold ownV at h
  by_cases e1 : t + 14 ≤ 8 * B.length
  · rw [if_pos e1] at h
    by_cases e2 : 286 < numAt B 5 t + 257 ∨ 30 < numAt B 5 (t + 5) + 1
    · rw [if_pos e2] at h; cases h
    · rw [if_neg e2] at h
      by_cases e3 : t + 14 + 3 * (numAt B 4 (t + 10) + 4) ≤ 8 * B.length
      · rw [if_pos e3] at h
        by_cases e4 : isTree (shortL B (numAt B 4 (t + 10) + 4) (t + 14)) = false
        · rw [if_pos e4] at h; cases h
        · rw [if_neg e4] at h
          cases hl : lensGo (shortL B (numAt B 4 (t + 10) + 4) (t + 14)) B (numAt B 5 t + 257 + (numAt B 5 (t + 5) + 1)) (numAt B 5 t + 257 + (numAt B 5 (t + 5) + 1) + 1) (t + 14 + 3 * (numAt B 4 (t + 10) + 4)) [] with
          | error k => rw [hl] at h; cases h
          | ok r =>
            obtain ⟨l, t2⟩ := r
            rw [hl, ownEnd] at h
            obtain ⟨k1, k2, k3, k4⟩ := lensGo_ok _ B _ (shortL_len B _ _) _ _ _ _ _ hl (Nat.zero_le _) (by simp) e3
            by_cases f1 : l.getD 256 0 = 0
            · rw [if_pos f1] at h; cases h
            · rw [if_neg f1] at h
              by_cases f2 : isTree (l.take (numAt B 5 t + 257)) = false
              · rw [if_pos f2] at h; cases h
              · rw [if_neg f2] at h
                by_cases f3 : isTree (l.drop (numAt B 5 t + 257)) = false
                · rw [if_pos f3] at h; cases h
                · rw [if_neg f3] at h
                  injection h with h
                  injection h with h1 h2
                  injection h2 with h2 h3
                  have g2 : isTree S = true := by
                    rw [← h1]; cases hh : isTree (l.take (numAt B 5 t + 257)) with
                    | false => exact absurd hh f2
                    | true => rfl
                  have g3 : isTree D = true := by
                    rw [← h2]; cases hh : isTree (l.drop (numAt B 5 t + 257)) with
                    | false => exact absurd hh f3
                    | true => rfl
                  subst h1 h2 h3
                  rw [List.length_take, List.length_drop]
                  exact ⟨by omega, by omega, by omega, by omega, fun x hx => k2 x (List.mem_of_mem_take hx), fun x hx => k2 x (List.mem_of_mem_drop hx), g2, g3, by omega, k4⟩
      · rw [if_neg e3] at h; cases h
  · rw [if_neg e1] at h; cases h

end Go.Proofs.YtpplboihlndfpaaDoor.Ix

namespace Go.Proofs.YtpplboihlndfpaaDoor.Ix
set_option linter.unusedSimpArgs false
set_option linter.unusedVariables false

/-- The next code, the codes that are known, and how many of one bit were met: within the k-th round, ahead of the i-th length. -/
def rNext (L : List Nat) (k i : Nat) : Nat := fst L k + cnt (L.take i) k
def rOut (L : List Nat) (k i j : Nat) : Int := if L.getD j 0 ≠ 0 ∧ (L.getD j 0 < k ∨ L.getD j 0 = k ∧ j < i) then (code L j : Nat) else 0
def rSeen (L : List Nat) (k i : Nat) : Nat := if k ≤ 1 then cnt (L.take i) 1 else cnt L 1
theorem rNext_start (L : List Nat) (k : Nat) (h : 1 ≤ k) : rNext L k 0 = 2 * beh L (k - 1) := by
  unfold rNext fst
  rw [if_neg (by omega)]
  simp [cnt]
theorem rNext_end (L : List Nat) (k : Nat) (h : 1 ≤ k) : rNext L k L.length = beh L k := by
  obtain ⟨m, rfl⟩ : ∃ m, k = m + 1 := ⟨k - 1, by omega⟩
  unfold rNext
  rw [List.take_length, beh_succ]
theorem rNext_skip (L : List Nat) (k i : Nat) (h : i < L.length) (hk : L[i] ≠ k) : rNext L k (i + 1) = rNext L k i := by
  unfold rNext
  rw [cnt_take_succ L i h, if_neg hk]; rfl
theorem rNext_step (L : List Nat) (k i : Nat) (h : i < L.length) (hk : L[i] = k) : rNext L k (i + 1) = rNext L k i + 1 := by
  unfold rNext
  rw [cnt_take_succ L i h, if_pos hk]; rfl
theorem rNext_le (L : List Nat) (k i : Nat) (h : 1 ≤ k) (hi : i ≤ L.length) : rNext L k i ≤ beh L k := by
  obtain ⟨m, rfl⟩ : ∃ m, k = m + 1 := ⟨k - 1, by omega⟩
  unfold rNext
  rw [beh_succ]
  have := cnt_take_le L i (m + 1)
  omega
theorem getD_at (L : List Nat) (i : Nat) (h : i < L.length) : L.getD i 0 = L[i] := by simp [List.getD, h]
theorem rOut_start (L : List Nat) (j : Nat) : rOut L 1 0 j = 0 := by
  unfold rOut
  rw [if_neg]
  omega
theorem rOut_skip (L : List Nat) (k i : Nat) (h : i < L.length) (hk : L[i] ≠ k) : rOut L k i = rOut L k (i + 1) := by
  funext j
  unfold rOut
  by_cases e : j = i
  · subst e
    rw [getD_at L j h]
    congr 1
    apply propext
    omega
  · congr 1
    apply propext
    omega
theorem rOut_step (L : List Nat) (k i : Nat) (h : i < L.length) (hk : L[i] = k) (h1 : 1 ≤ k) : (fun j => if j = i then ((rNext L k i : Nat) : Int) else rOut L k i j) = rOut L k (i + 1) := by
  funext j
  have hg := getD_at L i h
  by_cases e : j = i
  · subst e
    unfold rOut rNext code
    rw [hg, if_pos rfl, if_pos (by omega), if_neg (by omega), hk]
  · unfold rOut
    rw [if_neg e]
    congr 1
    apply propext
    omega
theorem rOut_round (L : List Nat) (k j : Nat) (hj : j < L.length) : rOut L k L.length j = rOut L (k + 1) 0 j := by
  unfold rOut
  congr 1
  apply propext
  omega
theorem rOut_end (L : List Nat) (h : ∀ x ∈ L, x ≤ 15) (j : Nat) (hj : j < L.length) : rOut L 16 0 j = (code L j : Nat) := by
  unfold rOut
  have h1 := h _ (List.getElem_mem hj)
  rw [getD_at L j hj]
  by_cases e : L[j] = 0
  · rw [if_neg (by omega)]
    unfold code
    rw [getD_at L j hj, if_pos e]; rfl
  · rw [if_pos (by omega)]
theorem three (k : Nat) (hk : 2 ≤ k) : ∀ L : List Nat, cnt L 0 + cnt L 1 + cnt L k ≤ L.length
  | [] => by simp [cnt]
  | x :: r => by
    have ih := three k hk r
    unfold cnt at *
    rw [List.count_cons, List.count_cons, List.count_cons, List.length_cons]
    by_cases h0 : x = 0
    · subst h0
      simp only [BEq.rfl, if_true]
      rw [if_neg (by simp), if_neg (by simp; omega)]; omega
    · by_cases h1 : x = 1
      · subst h1
        simp only [BEq.rfl, if_true]
        rw [if_neg (by simp), if_neg (by simp; omega)]; omega
      · rw [if_neg (by simpa using h0), if_neg (by simpa using h1)]
        split <;> omega
theorem zero_one (L : List Nat) : cnt L 0 + cnt L 1 ≤ L.length := by
  have := three 2 (Nat.le_refl _) L
  omega
theorem used_pos (L : List Nat) (i : Nat) (h : i < L.length) (hk : L[i] ≠ 0) : 1 ≤ used L := by
  unfold used
  have h1 := cnt_pos L i h
  by_cases e : L[i] = 1
  · rw [e] at h1
    have := zero_one L
    omega
  · have := three L[i] (by omega) L
    omega
/-- Only one length, and it isn't 1: none is 1. -/
theorem one_else (L : List Nat) (i : Nat) (h : i < L.length) (hk : 2 ≤ L[i]) (h1 : used L = 1) : cnt L 1 = 0 := by
  have h2 := cnt_pos L i h
  have := three L[i] hk L
  unfold used at h1
  omega
theorem not_tree (L : List Nat) (i : Nat) (h : i < L.length) (k : Nat) (hk : L[i] = k) (h1 : 1 ≤ k) (h15 : k ≤ 15) (hb : 2 ^ k ≤ rNext L k i) : isTree L = false := by
  have hc := code_lt L i h (by omega)
  have he : code L i = rNext L k i := by
    unfold code rNext
    rw [getD_at L i h, if_neg (by omega), hk]
  rw [he, hk] at hc
  have hw : whole L = false := by
    cases hw : whole L with
    | false => rfl
    | true =>
      have := beh_fits hw k h15
      omega
  have hu := used_pos L i h (by omega)
  unfold isTree lack
  rw [hw, Bool.false_or, show (used L == 0) = false by rw [beq_eq_false_iff_ne]; omega, Bool.false_or, Bool.and_eq_false_iff]
  by_cases e : used L = 1
  · right
    rw [beq_eq_false_iff_ne]
    intro e1
    by_cases k1 : k = 1
    · subst k1
      have hf : fst L 1 = 0 := rfl
      have := cnt_take_lt L i h
      rw [hk] at this
      unfold rNext at hb
      rw [hf] at hb
      omega
    · have := one_else L i h (by omega) e
      omega
  · left
    rw [beq_eq_false_iff_ne]; exact e
theorem rSeen_skip (L : List Nat) (k i : Nat) (h : i < L.length) (hk : L[i] ≠ k) (h1 : 1 ≤ k) : rSeen L k (i + 1) = rSeen L k i := by
  unfold rSeen
  by_cases e : k ≤ 1
  · rw [if_pos e, if_pos e, cnt_take_succ L i h, if_neg (by omega)]; rfl
  · rw [if_neg e, if_neg e]
theorem rSeen_step (L : List Nat) (k i : Nat) (h : i < L.length) (hk : L[i] = k) (h1 : 1 ≤ k) (hu : used L = 1) : decide (k = 1) = decide (0 < rSeen L k (i + 1)) := by
  unfold rSeen
  by_cases e : k ≤ 1
  · rw [if_pos e, cnt_take_succ L i h, if_pos (by omega), decide_eq_true (by omega), decide_eq_true (by omega)]
  · rw [if_neg e, one_else L i h (by omega) hu, decide_eq_false (by omega)]; rfl
theorem rSeen_round (L : List Nat) (k : Nat) (h1 : 1 ≤ k) : rSeen L k L.length = rSeen L (k + 1) 0 := by
  unfold rSeen
  rw [if_neg (show ¬ k + 1 ≤ 1 by omega), List.take_length]
  split <;> rfl
theorem rSeen_start (L : List Nat) : rSeen L 1 0 = 0 := by simp [rSeen, cnt]
theorem rSeen_end (L : List Nat) : rSeen L 16 0 = cnt L 1 := rfl
/-- How many have a code, of the first ones. -/
def usedTo (L : List Nat) (i : Nat) : Nat := i - cnt (L.take i) 0
theorem usedTo_le (L : List Nat) (i : Nat) (h : i ≤ L.length) : cnt (L.take i) 0 ≤ i := by
  have := cnt_le (L.take i) 0
  rw [List.length_take] at this
  omega
theorem usedTo_skip (L : List Nat) (i : Nat) (h : i < L.length) (h0 : L[i] = 0) : usedTo L (i + 1) = usedTo L i := by
  unfold usedTo
  rw [cnt_take_succ L i h, if_pos h0]; omega
theorem usedTo_step (L : List Nat) (i : Nat) (h : i < L.length) (h0 : L[i] ≠ 0) : usedTo L (i + 1) = usedTo L i + 1 := by
  have := usedTo_le L i (by omega)
  unfold usedTo
  rw [cnt_take_succ L i h, if_neg h0]; omega
theorem usedTo_end (L : List Nat) : usedTo L L.length = used L := by unfold usedTo used; rw [List.take_length]
theorem tree_one (L : List Nat) (o : Bool) (ho : used L = 1 → o = decide (0 < cnt L 1)) (hu : used L = 1) : isTree L = (whole L || o) := by
  have h1 := ho hu
  have h2 := zero_one L
  unfold isTree lack
  rw [hu, h1]
  have h3 : cnt L 1 ≤ 1 := by unfold used at hu; omega
  have : (cnt L 1 == 1) = decide (0 < cnt L 1) := by
    rw [Bool.eq_iff_iff, beq_iff_eq, decide_eq_true_eq]; omega
  rw [this]; rfl
theorem tree_none (L : List Nat) (hu : used L = 0) : isTree L = true := by unfold isTree lack; rw [hu]; simp
theorem tree_more (L : List Nat) (h0 : used L ≠ 0) (h1 : used L ≠ 1) : isTree L = whole L := by
  unfold isTree lack
  rw [beq_eq_false_iff_ne.2 h0, beq_eq_false_iff_ne.2 h1]; simp

end Go.Proofs.YtpplboihlndfpaaDoor.Ix

namespace Go.Proofs.YtpplboihlndfpaaDoor.Ix
set_option linter.unusedSimpArgs false
set_option linter.unusedVariables false

/-- What stands behind a block's own trees. -/
def ownBlkV (B : List UInt8) (out : List UInt8) : Except Int (List Nat × List Nat × Nat) → Except Int (List UInt8 × Nat)
  | .error e => .error e
  | .ok (S, D, t1) => pressGo S D B (8 * B.length + 1) t1 out
/-- What stands in a block of such a kind. -/
def kindV (k : Nat) (B : List UInt8) (t : Nat) (out : List UInt8) : Except Int (List UInt8 × Nat) :=
  if k = 0 then storedV B t out else if k = 1 then pressGo fixS fixD B (8 * B.length + 1) t out else if k = 2 then ownBlkV B out (ownV B t) else .error 3
def lastV (last : Bool) : Except Int (List UInt8 × Nat) → Except Int (Bool × List UInt8 × Nat)
  | .error e => .error e
  | .ok (o, t') => .ok (last, o, t')
def blockV (B : List UInt8) (t : Nat) (out : List UInt8) : Except Int (Bool × List UInt8 × Nat) :=
  if t + 3 ≤ 8 * B.length then lastV (bitAt B t == 1) (kindV (numAt B 2 (t + 1)) B (t + 3) out) else .error 4
def rawGo (B : List UInt8) : Nat → Nat → List UInt8 → Except Int (List UInt8 × Nat)
  | 0, _, _ => .error 0
  | f + 1, t, out => match blockV B t out with
    | .error e => .error e
    | .ok (last, o, t') => if last then .ok (o, (t' + 7) / 8) else rawGo B f t' o
def rawV (B : List UInt8) : Except Int (List UInt8 × Nat) := rawGo B (8 * B.length + 1) 0 []
def headV (x y : UInt8) : Bool := x.toNat % 16 == 8 && (decide (x.toNat / 16 ≤ 7) && ((x.toNat * 256 + y.toNat) % 31 == 0 && y.toNat / 32 % 2 == 0))
def sumV (l : List UInt8) : Nat := (l.take 4).foldl (fun n v => n * 256 + v.toNat) 0
/-- What stands behind the blocks. -/
def tailV (B : List UInt8) : Except Int (List UInt8 × Nat) → Except Int (List UInt8 × Nat)
  | .error e => .error e
  | .ok (o, n) => if B.length - 2 - n < 4 then .error 4
    else if sumV ((B.drop 2).drop n) = adler o then .ok (o, n + 6) else .error 3
def zlibV (B : List UInt8) : Except Int (List UInt8 × Nat) :=
  if B.length < 2 then .error 4
  else if headV (B.getD 0 0) (B.getD 1 0) = false then .error 3
  else tailV B (rawV (B.drop 2))

theorem rawGo_succ (B : List UInt8) (f t : Nat) (out : List UInt8) : rawGo B (f + 1) t out = match blockV B t out with
    | .error e => .error e
    | .ok (last, o, t') => if last then .ok (o, (t' + 7) / 8) else rawGo B f t' o := rfl
theorem raw_no {B : List UInt8} {f t : Nat} {out : List UInt8} {k : Int} (h : blockV B t out = .error k) : rawGo B (f + 1) t out = .error k := by
  rw [rawGo_succ, h]
theorem raw_last {B : List UInt8} {f t t' : Nat} {out o : List UInt8} (h : blockV B t out = .ok (true, o, t')) : rawGo B (f + 1) t out = .ok (o, (t' + 7) / 8) := by
  rw [rawGo_succ, h]; rfl
theorem raw_more {B : List UInt8} {f t t' : Nat} {out o : List UInt8} (h : blockV B t out = .ok (false, o, t')) : rawGo B (f + 1) t out = rawGo B f t' o := by
  rw [rawGo_succ, h]; rfl

theorem putV'_len {out o : List UInt8} {v : UInt8} (h : putV' out v = .ok o) : o.length = out.length + 1 := by
  unfold putV' at h
  split at h
  · cases h
  · injection h with h; subst h; simp
theorem storedGo_ge (B : List UInt8) : ∀ n t out o t', storedGo B n t out = .ok (o, t') → t ≤ t'
  | 0, t, out, o, t', h => by injection h with h; injection h with h1 h2; omega
  | n + 1, t, out, o, t', h => by
    rw [storedGo] at h
    split at h
    · cases h
    · split at h
      · cases h
      · have := storedGo_ge B n _ _ _ _ h; omega

/-- The document's example. -/
theorem zlib_example : zlibV [120, 156, 75, 4, 0, 0, 98, 0, 98] = .ok ([97], 9) := by kernel_rfl
theorem adler_example : adler [97] = 6422626 := by kernel_rfl

end Go.Proofs.YtpplboihlndfpaaDoor.Ix

namespace Go.Proofs.YtpplboihlndfpaaDoor.Ix
set_option linter.unusedSimpArgs false
set_option linter.unusedVariables false

theorem fix_beh : beh fixS 1 = 0 ∧ beh fixS 2 = 0 ∧ beh fixS 3 = 0 ∧ beh fixS 4 = 0 ∧ beh fixS 5 = 0 ∧ beh fixS 6 = 0 ∧ beh fixS 7 = 24 ∧ beh fixS 8 = 200 ∧ fst fixS 7 = 0 ∧ fst fixS 8 = 48 := by
  refine ⟨?_, ?_, ?_, ?_, ?_, ?_, ?_, ?_, ?_, ?_⟩ <;> kernel_rfl
theorem fix_pos (x : Nat) (h1 : 97 ≤ x) (h2 : x ≤ 122) : (pos fixS 8).getD x 0 = x := by
  have key : (List.range 26).all (fun i => (pos fixS 8).getD (97 + i) 0 == 97 + i) = true := by kernel_rfl
  have := List.all_eq_true.1 key (x - 97) (List.mem_range.2 (by omega))
  rw [show 97 + (x - 97) = x by omega] at this
  exact beq_iff_eq.1 this
theorem sym_skip (L : List Nat) (B : List UInt8) (k n c t c' b : Nat) (ht : t < 8 * B.length) (hb : bitAt B t = b) (hc : c' = 2 * c + b) (h : ¬ (fst L n ≤ c' ∧ c' < beh L n)) : symGo L B (k + 1) n c t = symGo L B k (n + 1) c' (t + 1) := by
  rw [symGo, if_pos ht, hb, ← hc, if_neg h]
theorem sym_hit (L : List Nat) (B : List UInt8) (k n c t c' b s : Nat) (ht : t < 8 * B.length) (hb : bitAt B t = b) (hc : c' = 2 * c + b) (h : fst L n ≤ c' ∧ c' < beh L n) (hs : (pos L n).getD (c' - fst L n) 0 = s) : symGo L B (k + 1) n c t = .ok (s, t + 1) := by
  rw [symGo, if_pos ht, hb, ← hc, if_pos h, hs]
theorem sym_letter (B : List UInt8) (t x : Nat) (h1 : 97 ≤ x) (h2 : x ≤ 122) (hl : t + 8 ≤ 8 * B.length) (hb : ∀ i, i < 8 → bitAt B (t + i) = (x + 48) / 2 ^ (7 - i) % 2) : sym fixS B t = .ok (x, t + 8) := by
  obtain ⟨e1, e2, e3, e4, e5, e6, e7, e8, f7, f8⟩ := fix_beh
  have b0 := hb 0 (by decide)
  have b1 := hb 1 (by decide)
  have b2 := hb 2 (by decide)
  have b3 := hb 3 (by decide)
  have b4 := hb 4 (by decide)
  have b5 := hb 5 (by decide)
  have b6 := hb 6 (by decide)
  have b7 := hb 7 (by decide)
  simp only [Nat.add_zero, Nat.reduceSub, Nat.reducePow, Nat.div_one] at b0 b1 b2 b3 b4 b5 b6 b7
  unfold sym
  rw [sym_skip fixS B 14 1 0 t ((x + 48) / 128) _ (by omega) b0 (by omega) (by rw [e1]; omega)]
  rw [sym_skip fixS B 13 2 _ (t + 1) ((x + 48) / 64) _ (by omega) b1 (by omega) (by rw [e2]; omega)]
  rw [sym_skip fixS B 12 3 _ (t + 2) ((x + 48) / 32) _ (by omega) b2 (by omega) (by rw [e3]; omega)]
  rw [sym_skip fixS B 11 4 _ (t + 3) ((x + 48) / 16) _ (by omega) b3 (by omega) (by rw [e4]; omega)]
  rw [sym_skip fixS B 10 5 _ (t + 4) ((x + 48) / 8) _ (by omega) b4 (by omega) (by rw [e5]; omega)]
  rw [sym_skip fixS B 9 6 _ (t + 5) ((x + 48) / 4) _ (by omega) b5 (by omega) (by rw [e6]; omega)]
  rw [sym_skip fixS B 8 7 _ (t + 6) ((x + 48) / 2) _ (by omega) b6 (by omega) (by rw [e7]; omega)]
  rw [sym_hit fixS B 7 8 _ (t + 7) (x + 48) _ x (by omega) b7 (by omega) (by rw [e8, f8]; omega) (by rw [f8, show x + 48 - 48 = x by omega]; exact fix_pos x h1 h2)]
theorem sym_end (B : List UInt8) (t : Nat) (hl : t + 7 ≤ 8 * B.length) (hb : ∀ i, i < 7 → bitAt B (t + i) = 0) : sym fixS B t = .ok (256, t + 7) := by
  obtain ⟨e1, e2, e3, e4, e5, e6, e7, e8, f7, f8⟩ := fix_beh
  have b0 := hb 0 (by decide)
  have b1 := hb 1 (by decide)
  have b2 := hb 2 (by decide)
  have b3 := hb 3 (by decide)
  have b4 := hb 4 (by decide)
  have b5 := hb 5 (by decide)
  have b6 := hb 6 (by decide)
  simp only [Nat.add_zero] at b0
  unfold sym
  rw [sym_skip fixS B 14 1 0 t 0 _ (by omega) b0 (by omega) (by rw [e1]; omega)]
  rw [sym_skip fixS B 13 2 _ (t + 1) 0 _ (by omega) b1 (by omega) (by rw [e2]; omega)]
  rw [sym_skip fixS B 12 3 _ (t + 2) 0 _ (by omega) b2 (by omega) (by rw [e3]; omega)]
  rw [sym_skip fixS B 11 4 _ (t + 3) 0 _ (by omega) b3 (by omega) (by rw [e4]; omega)]
  rw [sym_skip fixS B 10 5 _ (t + 4) 0 _ (by omega) b4 (by omega) (by rw [e5]; omega)]
  rw [sym_skip fixS B 9 6 _ (t + 5) 0 _ (by omega) b5 (by omega) (by rw [e6]; omega)]
  rw [sym_hit fixS B 8 7 _ (t + 6) 0 _ 256 (by omega) b6 (by omega) (by rw [e7, f7]; omega) (by rw [f7]; kernel_rfl)]

/-- The bits of letters, from a place on. -/
def letBits (B : List UInt8) : Nat → List UInt8 → Prop
  | t, [] => ∀ i, i < 7 → bitAt B (t + i) = 0
  | t, x :: r => (∀ i, i < 8 → bitAt B (t + i) = (x.toNat + 48) / 2 ^ (7 - i) % 2) ∧ letBits B (t + 8) r
theorem press_letters (B : List UInt8) : ∀ (s : List UInt8) (t f : Nat) (out : List UInt8), letBits B t s → (∀ x ∈ s, 97 ≤ x.toNat ∧ x.toNat ≤ 122) → t + 8 * s.length + 7 ≤ 8 * B.length → s.length < f → out.length + s.length ≤ 1048576 →
    pressGo fixS fixD B f t out = .ok (out ++ s, t + 8 * s.length + 7)
  | [], t, f, out, hb, _, hl, hf, ho => by
    obtain ⟨g, rfl⟩ : ∃ g, f = g + 1 := ⟨f - 1, by simp at hf; omega⟩
    rw [pressGo, sym_end B t (by simpa using hl) hb]
    simp
  | x :: r, t, f, out, hb, hx, hl, hf, ho => by
    obtain ⟨g, rfl⟩ : ∃ g, f = g + 1 := ⟨f - 1, by omega⟩
    simp only [List.length_cons] at hl hf ho
    have h1 := hx x (by simp)
    rw [pressGo, sym_letter B t x.toNat h1.1 h1.2 (by omega) hb.1]
    have hp : putV' out (UInt8.ofNat x.toNat) = .ok (out ++ [x]) := by
      unfold putV'
      rw [if_neg (by omega)]
      simp
    show (if x.toNat < 256 then _ else _) = _
    rw [if_pos x.toNat_lt, hp]
    have := press_letters B r (t + 8) g (out ++ [x]) hb.2 (fun y hy => hx y (by simp [hy])) (by omega) (by omega) (by rw [List.length_append, List.length_singleton]; omega)
    simp only [this, List.append_assoc, List.singleton_append, List.length_cons]
    congr 2; omega
theorem raw_letters (B s : List UInt8) (h0 : bitAt B 0 = 1) (h1 : bitAt B 1 = 1) (h2 : bitAt B 2 = 0) (hb : letBits B 3 s) (hx : ∀ x ∈ s, 97 ≤ x.toNat ∧ x.toNat ≤ 122) (hB : B.length = s.length + 2) (hs : s.length ≤ 300) :
    rawV B = .ok (s, B.length) := by
  have hp := press_letters B s 3 (8 * B.length + 1) [] hb hx (by omega) (by omega) (by simp; omega)
  have hk : numAt B 2 1 = 1 := by simp [numAt, h1, h2]
  have hv : blockV B 0 [] = .ok (true, s, 3 + 8 * s.length + 7) := by
    unfold blockV
    rw [if_pos (by omega), hk, h0]
    unfold kindV
    rw [if_neg (by decide), if_pos rfl, hp]
    rfl
  unfold rawV
  rw [raw_last hv]
  congr 2; omega

end Go.Proofs.YtpplboihlndfpaaDoor.Ix

namespace Go.Proofs.YtpplboihlndfpaaDoor.Ix
set_option linter.unusedSimpArgs false
set_option linter.unusedVariables false

theorem bitAt_byte (B : List UInt8) (q i : Nat) (h : i < 8) : bitAt B (8 * q + i) = (B.getD q 0).toNat / 2 ^ i % 2 := by
  unfold bitAt
  rw [show (8 * q + i) / 8 = q by omega, show (8 * q + i) % 8 = i by omega]
theorem num16 (B : List UInt8) (q : Nat) : numAt B 16 (8 * q) = (B.getD q 0).toNat + 256 * (B.getD (q + 1) 0).toNat := by
  have h0 := fun i h => bitAt_byte B q i h
  have h1 := fun i h => bitAt_byte B (q + 1) i h
  have a := (B.getD q 0).toNat_lt
  have b := (B.getD (q + 1) 0).toNat_lt
  simp only [numAt]
  rw [show 8 * q + 15 = 8 * (q + 1) + 7 by omega, show 8 * q + 14 = 8 * (q + 1) + 6 by omega, show 8 * q + 13 = 8 * (q + 1) + 5 by omega, show 8 * q + 12 = 8 * (q + 1) + 4 by omega, show 8 * q + 11 = 8 * (q + 1) + 3 by omega, show 8 * q + 10 = 8 * (q + 1) + 2 by omega, show 8 * q + 9 = 8 * (q + 1) + 1 by omega, show 8 * q + 8 = 8 * (q + 1) + 0 by omega]
  rw [h0 0 (by decide), h0 1 (by decide), h0 2 (by decide), h0 3 (by decide), h0 4 (by decide), h0 5 (by decide), h0 6 (by decide), h0 7 (by decide), h1 0 (by decide), h1 1 (by decide), h1 2 (by decide), h1 3 (by decide), h1 4 (by decide), h1 5 (by decide), h1 6 (by decide), h1 7 (by decide)]
  generalize (B.getD q 0).toNat = x at a
  generalize (B.getD (q + 1) 0).toNat = y at b
  simp only [Nat.reducePow, Nat.div_one]
  omega
theorem num2 (B : List UInt8) (q : Nat) : numAt B 2 (8 * q + 1) = (B.getD q 0).toNat / 2 % 4 := by
  simp only [numAt]
  rw [show 8 * q + 1 + 1 = 8 * q + 2 by omega, show 8 * q + 1 + 0 = 8 * q + 1 by omega, bitAt_byte B q 1 (by decide), bitAt_byte B q 2 (by decide)]
  simp only [Nat.reducePow]
  omega
theorem put_ok {out : List UInt8} (v : UInt8) (h : out.length < 1048576) : putV' out v = .ok (out ++ [v]) := by
  unfold putV'; rw [if_neg (by omega)]
theorem storedGo_full (B : List UInt8) : ∀ n q out, q + n ≤ B.length → out.length + n ≤ 1048576 → storedGo B n (8 * q) out = .ok (out ++ (B.drop q).take n, 8 * (q + n))
  | 0, q, out, _, _ => by simp [storedGo]
  | n + 1, q, out, h, ho => by
    rw [storedGo, if_neg (by omega), put_ok _ (by omega)]
    have := storedGo_full B n (q + 1) (out ++ [B.getD (8 * q / 8) 0]) (by omega) (by rw [List.length_append, List.length_singleton]; omega)
    show storedGo B n (8 * q + 8) _ = _
    rw [show 8 * q + 8 = 8 * (q + 1) by omega, this, show 8 * q / 8 = q by omega, List.drop_eq_getElem_cons (show q < B.length by omega), List.take_succ_cons]
    simp [List.getD, show q < B.length by omega]
    omega
theorem storedGo_short (B : List UInt8) : ∀ n q out, q ≤ B.length → B.length < q + n → out.length + n ≤ 1048576 → storedGo B n (8 * q) out = .error 4
  | 0, q, out, h, h2, _ => by omega
  | n + 1, q, out, h, h2, ho => by
    rw [storedGo]
    by_cases e : q = B.length
    · rw [if_pos (by omega)]
    · rw [if_neg (by omega), put_ok _ (by omega)]
      show storedGo B n (8 * q + 8) _ = _
      rw [show 8 * q + 8 = 8 * (q + 1) by omega]
      exact storedGo_short B n (q + 1) _ (by omega) (by omega) (by rw [List.length_append, List.length_singleton]; omega)

/-- Five bytes ahead of n bytes. -/
structure Head (B : List UInt8) (q n last : Nat) : Prop where
  b0 : (B.getD q 0).toNat = last
  lo : (B.getD (q + 1) 0).toNat + 256 * (B.getD (q + 2) 0).toNat = n
  not : (B.getD (q + 3) 0).toNat + 256 * (B.getD (q + 4) 0).toNat = 65535 - n
  small : n ≤ 2000 ∧ last ≤ 1
theorem block_head {B : List UInt8} {q n last : Nat} (h : Head B q n last) (hq : q < B.length) (out : List UInt8) : blockV B (8 * q) out = lastV (last == 1) (storedV B (8 * q + 3) out) := by
  have := h.small.2
  unfold blockV
  rw [if_pos (by omega), num2, h.b0]
  have e := bitAt_byte B q 0 (by decide)
  rw [Nat.add_zero, h.b0, Nat.pow_zero, Nat.div_one, show last % 2 = last by omega] at e
  rw [e]
  unfold kindV
  rw [if_pos (by omega)]
theorem stored_full {B : List UInt8} {q n last : Nat} (h : Head B q n last) (hq : q + 5 + n ≤ B.length) (out : List UInt8) (ho : out.length + n ≤ 1048576) :
    blockV B (8 * q) out = .ok (last == 1, out ++ (B.drop (q + 5)).take n, 8 * (q + 5 + n)) := by
  rw [block_head h (by omega)]
  have hu : up8 (8 * q + 3) = 8 * (q + 1) := by unfold up8; omega
  have := h.small.1
  have e1 := h.lo
  have e2 := h.not
  unfold storedV
  rw [hu, if_pos (by omega), num16, show 8 * (q + 1) + 16 = 8 * (q + 3) by omega, num16, show q + 1 + 1 = q + 2 by omega, show q + 3 + 1 = q + 4 by omega, if_pos (by omega), e1, show 8 * (q + 1) + 32 = 8 * (q + 5) by omega,
    storedGo_full B n (q + 5) out (by omega) ho]
  rfl
theorem stored_short {B : List UInt8} {q n last : Nat} (h : q + 5 ≤ B.length → Head B q n last) (h0 : q < B.length → (B.getD q 0).toNat = last) (hl : last ≤ 1) (hq : B.length < q + 5 + n) (out : List UInt8) (ho : out.length + n ≤ 1048576) :
    blockV B (8 * q) out = .error 4 := by
  have hu : up8 (8 * q + 3) = 8 * (q + 1) := by unfold up8; omega
  by_cases c1 : B.length ≤ q
  · unfold blockV; rw [if_neg (by omega)]
  · by_cases c2 : q + 5 ≤ B.length
    · have hh := h c2
      rw [block_head hh (by omega)]
      have := hh.small.1
      have e1 := hh.lo
      have e2 := hh.not
      unfold storedV
      rw [hu, if_pos (by omega), num16, show 8 * (q + 1) + 16 = 8 * (q + 3) by omega, num16, show q + 1 + 1 = q + 2 by omega, show q + 3 + 1 = q + 4 by omega, if_pos (by omega), e1, show 8 * (q + 1) + 32 = 8 * (q + 5) by omega,
        storedGo_short B n (q + 5) out (by omega) (by omega) ho]
      rfl
    · unfold blockV
      rw [if_pos (by omega), num2, h0 (by omega)]
      unfold kindV
      rw [if_pos (by omega)]
      unfold storedV
      rw [hu, if_neg (by omega)]
      rfl

/-- Two such blocks. -/
def twoB (a b : List UInt8) (a0 a1 a2 a3 a4 b0 b1 b2 b3 b4 : UInt8) : List UInt8 := [a0, a1, a2, a3, a4] ++ a ++ [b0, b1, b2, b3, b4] ++ b
theorem two_len (a b : List UInt8) (a0 a1 a2 a3 a4 b0 b1 b2 b3 b4 : UInt8) : (twoB a b a0 a1 a2 a3 a4 b0 b1 b2 b3 b4).length = a.length + b.length + 10 := by
  unfold twoB; simp; omega
theorem getD_app (X Y : List UInt8) (i : Nat) (h : i < X.length) : (X ++ Y).getD i 0 = X.getD i 0 := by
  simp [List.getD, List.getElem?_append_left h]
theorem getD_take (X : List UInt8) (k i : Nat) (h : i < k) : (X.take k).getD i 0 = X.getD i 0 := by
  simp [List.getD, List.getElem?_take, h]
theorem getD_far (X Y : List UInt8) (i j : Nat) (h : i = X.length + j) : (X ++ Y).getD i 0 = Y.getD j 0 := by
  subst h
  simp [List.getD, List.getElem?_append_right]
structure TwoB (a b : List UInt8) (a0 a1 a2 a3 a4 b0 b1 b2 b3 b4 : UInt8) : Prop where
  la : a.length ≤ 2000
  lb : b.length ≤ 2000
  a0 : a0.toNat = 0
  al : a1.toNat + 256 * a2.toNat = a.length
  an : a3.toNat + 256 * a4.toNat = 65535 - a.length
  b0 : b0.toNat = 1
  bl : b1.toNat + 256 * b2.toNat = b.length
  bn : b3.toNat + 256 * b4.toNat = 65535 - b.length
section
variable {a b : List UInt8} {a0 a1 a2 a3 a4 b0 b1 b2 b3 b4 : UInt8}
theorem two_first (h : TwoB a b a0 a1 a2 a3 a4 b0 b1 b2 b3 b4) : Head (twoB a b a0 a1 a2 a3 a4 b0 b1 b2 b3 b4) 0 a.length 0 :=
  ⟨h.a0, h.al, h.an, ⟨h.la, by decide⟩⟩
theorem two_at (j : Nat) (hj : j < 5) : (twoB a b a0 a1 a2 a3 a4 b0 b1 b2 b3 b4).getD (a.length + 5 + j) 0 = [b0, b1, b2, b3, b4].getD j 0 := by
  unfold twoB
  rw [getD_app _ _ _ (by simp; omega)]
  exact getD_far _ _ _ _ (by simp)
theorem two_second (h : TwoB a b a0 a1 a2 a3 a4 b0 b1 b2 b3 b4) : Head (twoB a b a0 a1 a2 a3 a4 b0 b1 b2 b3 b4) (a.length + 5) b.length 1 := by
  have e := fun j hj => two_at (a := a) (b := b) (a0 := a0) (a1 := a1) (a2 := a2) (a3 := a3) (a4 := a4) (b0 := b0) (b1 := b1) (b2 := b2) (b3 := b3) (b4 := b4) j hj
  refine ⟨?_, ?_, ?_, ⟨h.lb, by decide⟩⟩
  · have := e 0 (by decide); rw [Nat.add_zero] at this; rw [this]; exact h.b0
  · rw [e 1 (by decide), e 2 (by decide)]; exact h.bl
  · rw [e 3 (by decide), e 4 (by decide)]; exact h.bn
theorem Head.app {X : List UInt8} {q n l : Nat} (h : Head X q n l) (hq : q + 5 ≤ X.length) (Y : List UInt8) : Head (X ++ Y) q n l := by
  obtain ⟨h1, h2, h3, h4⟩ := h
  refine ⟨?_, ?_, ?_, h4⟩
  · rw [getD_app _ _ _ (by omega)]; exact h1
  · rw [getD_app _ _ _ (by omega), getD_app _ _ _ (by omega)]; exact h2
  · rw [getD_app _ _ _ (by omega), getD_app _ _ _ (by omega)]; exact h3
theorem Head.cut {X : List UInt8} {q n l : Nat} (h : Head X q n l) (k : Nat) (hq : q + 5 ≤ k) : Head (X.take k) q n l := by
  obtain ⟨h1, h2, h3, h4⟩ := h
  refine ⟨?_, ?_, ?_, h4⟩
  · rw [getD_take _ _ _ (by omega)]; exact h1
  · rw [getD_take _ _ _ (by omega), getD_take _ _ _ (by omega)]; exact h2
  · rw [getD_take _ _ _ (by omega), getD_take _ _ _ (by omega)]; exact h3
theorem raw_two (h : TwoB a b a0 a1 a2 a3 a4 b0 b1 b2 b3 b4) (Y : List UInt8) :
    rawV (twoB a b a0 a1 a2 a3 a4 b0 b1 b2 b3 b4 ++ Y) = .ok (a ++ b, a.length + b.length + 10) := by
  have hl := two_len a b a0 a1 a2 a3 a4 b0 b1 b2 b3 b4
  have la := h.la
  have lb := h.lb
  have f := stored_full ((two_first h).app (by omega) Y) (by rw [List.length_append, hl]; omega) [] (by simp; omega)
  have g := stored_full ((two_second h).app (by omega) Y) (by rw [List.length_append, hl]; omega) a (by omega)
  have ea : ((twoB a b a0 a1 a2 a3 a4 b0 b1 b2 b3 b4 ++ Y).drop (0 + 5)).take a.length = a := by
    unfold twoB; simp
  have eb : ((twoB a b a0 a1 a2 a3 a4 b0 b1 b2 b3 b4 ++ Y).drop (a.length + 5 + 5)).take b.length = b := by
    unfold twoB
    rw [show a.length + 5 + 5 = 5 + (a.length + 5) by omega]
    rw [← List.drop_drop]
    have : ([a0, a1, a2, a3, a4] ++ a ++ [b0, b1, b2, b3, b4] ++ b ++ Y).drop 5 = a ++ ([b0, b1, b2, b3, b4] ++ (b ++ Y)) := by simp
    rw [this, ← List.drop_drop, List.drop_left]
    simp
  rw [ea, List.nil_append, show 8 * 0 = 0 by rfl, show 0 + 5 + a.length = a.length + 5 by omega] at f
  rw [eb] at g
  unfold rawV
  obtain ⟨F, hF⟩ : ∃ F, 8 * (twoB a b a0 a1 a2 a3 a4 b0 b1 b2 b3 b4 ++ Y).length + 1 = F + 1 + 1 := ⟨8 * (twoB a b a0 a1 a2 a3 a4 b0 b1 b2 b3 b4 ++ Y).length - 1, by rw [List.length_append, hl]; omega⟩
  rw [hF, raw_more f, raw_last g]
  congr 2; omega
theorem raw_cut (h : TwoB a b a0 a1 a2 a3 a4 b0 b1 b2 b3 b4) (k : Nat) (hk : k < a.length + b.length + 10) :
    rawV ((twoB a b a0 a1 a2 a3 a4 b0 b1 b2 b3 b4).take k) = .error 4 := by
  have hl := two_len a b a0 a1 a2 a3 a4 b0 b1 b2 b3 b4
  have la := h.la
  have lb := h.lb
  have hk2 : ((twoB a b a0 a1 a2 a3 a4 b0 b1 b2 b3 b4).take k).length = k := by rw [List.length_take, hl]; omega
  unfold rawV
  by_cases c : k < a.length + 5
  · have := stored_short (B := (twoB a b a0 a1 a2 a3 a4 b0 b1 b2 b3 b4).take k) (q := 0) (n := a.length) (last := 0) (fun _ => (two_first h).cut k (by omega)) (fun _ => by rw [getD_take _ _ _ (by omega)]; exact h.a0) (by decide) (by omega) [] (by simp; omega)
    rw [raw_no (by rw [Nat.mul_zero] at this; exact this)]
  · have f := stored_full ((two_first h).cut k (by omega)) (by omega) [] (by simp; omega)
    rw [show 8 * 0 = 0 by rfl, show 0 + 5 + a.length = a.length + 5 by omega] at f
    obtain ⟨F, hF⟩ : ∃ F, 8 * ((twoB a b a0 a1 a2 a3 a4 b0 b1 b2 b3 b4).take k).length + 1 = F + 1 + 1 := ⟨8 * k - 1, by omega⟩
    have g := stored_short (B := (twoB a b a0 a1 a2 a3 a4 b0 b1 b2 b3 b4).take k) (q := a.length + 5) (n := b.length) (last := 1) (fun _ => (two_second h).cut k (by omega)) (fun _ => by rw [getD_take _ _ _ (by omega)]; exact (two_second h).b0) (by decide) (by omega) ([] ++ (((twoB a b a0 a1 a2 a3 a4 b0 b1 b2 b3 b4).take k).drop (0 + 5)).take a.length) (by simp; omega)
    rw [hF, raw_more f, raw_no g]
end

end Go.Proofs.YtpplboihlndfpaaDoor.Ix

namespace Go.Proofs.YtpplboihlndfpaaDoor.Ix
set_option linter.unusedSimpArgs false
set_option linter.unusedVariables false

/-- The first m bytes are the same. -/
structure Ag (B C : List UInt8) (m : Nat) : Prop where
  here : m ≤ B.length
  there : m ≤ C.length
  same : ∀ i, i < m → B.getD i 0 = C.getD i 0
section
variable {B C : List UInt8} {m : Nat}
theorem Ag.bit (h : Ag B C m) {t : Nat} (ht : t < 8 * m) : bitAt B t = bitAt C t := by unfold bitAt; rw [h.same _ (by omega)]
theorem Ag.num (h : Ag B C m) (t : Nat) : ∀ n, t + n ≤ 8 * m → numAt B n t = numAt C n t
  | 0, _ => rfl
  | n + 1, hn => by rw [numAt, numAt, h.num t n (by omega), h.bit (by omega)]
theorem Ag.symGo (h : Ag B C m) (L : List Nat) : ∀ k n c t s t', symGo L B k n c t = .ok (s, t') → t' ≤ 8 * m → 1 ≤ n → symGo L C k n c t = .ok (s, t')
  | 0, n, c, t, s, t', e, _, _ => by cases e
  | k + 1, n, c, t, s, t', e, ht, h1 => by
    have hin := symGo_in L B _ _ _ _ _ _ h1 e
    have hb := h.bit (t := t) (by omega)
    have hc := h.there
    rw [Ix.symGo] at e ⊢
    rw [if_pos (by omega)] at e ⊢
    rw [← hb]
    by_cases e2 : fst L n ≤ 2 * c + bitAt B t ∧ 2 * c + bitAt B t < beh L n
    · rw [if_pos e2] at e ⊢; exact e
    · rw [if_neg e2] at e ⊢; exact h.symGo L k _ _ _ s t' e ht (by omega)
theorem Ag.sym (h : Ag B C m) {L : List Nat} {t s t' : Nat} (e : sym L B t = .ok (s, t')) (ht : t' ≤ 8 * m) : Ix.sym L C t = .ok (s, t') := h.symGo L _ _ _ _ _ _ e ht (Nat.le_refl _)
theorem Ag.span (h : Ag B C m) {s e t v t' : Nat} (hv : spanV B s e t = .ok (v, t')) (ht : t' ≤ 8 * m) : spanV C s e t = .ok (v, t') := by
  have hc := h.there
  unfold spanV at *
  split at hv
  · injection hv with hv; injection hv with h1 h2
    rw [if_pos (by omega), ← h.num _ _ (by omega), h1, h2]
  · cases hv
theorem span_ge {B : List UInt8} {s e t v t' : Nat} (h : spanV B s e t = .ok (v, t')) : t ≤ t' := by
  unfold spanV at h
  split at h
  · injection h with h; injection h with h1 h2; omega
  · cases h
theorem Ag.len (h : Ag B C m) {s t v t' : Nat} (hv : lenV B s t = .ok (v, t')) (ht : t' ≤ 8 * m) : lenV C s t = .ok (v, t') := by
  unfold lenV at *
  by_cases e : s = 285
  · rw [if_pos e] at hv ⊢; exact hv
  · rw [if_neg e] at hv ⊢
    generalize hy : s - 257 = y at hv ⊢
    cases hs : spanV B y 4 t with
    | error k => rw [hs] at hv; cases hv
    | ok r =>
      obtain ⟨x, t1⟩ := r
      rw [hs] at hv
      simp only [Except.ok.injEq, Prod.mk.injEq] at hv
      obtain ⟨h1, h2⟩ := hv
      rw [h.span hs (by omega)]
      simp only [h1, h2]
theorem len_ge {B : List UInt8} {s t v t' : Nat} (hv : lenV B s t = .ok (v, t')) : t ≤ t' := by
  unfold lenV at hv
  by_cases e : s = 285
  · rw [if_pos e] at hv; injection hv with hv; injection hv with h1 h2; omega
  · rw [if_neg e] at hv
    generalize hy : s - 257 = y at hv
    cases hs : spanV B y 4 t with
    | error k => rw [hs] at hv; cases hv
    | ok r =>
      obtain ⟨x, t1⟩ := r
      rw [hs] at hv
      injection hv with hv; injection hv with h1 h2
      have := span_ge hs
      omega
theorem dist_parts {D : List Nat} {B : List UInt8} {t v t' : Nat} (h : distV D B t = .ok (v, t')) : ∃ s t1 x, sym D B t = .ok (s, t1) ∧ s ≤ 29 ∧ spanV B s 2 t1 = .ok (x, t') ∧ v = 1 + x := by
  unfold distV at h
  cases hs : sym D B t with
  | error k => rw [hs] at h; cases h
  | ok r =>
    obtain ⟨s, t1⟩ := r
    rw [hs] at h
    simp only at h
    by_cases e : 29 < s
    · rw [if_pos e] at h; cases h
    · rw [if_neg e] at h
      cases hx : spanV B s 2 t1 with
      | error k => rw [hx] at h; cases h
      | ok r =>
        obtain ⟨x, t2⟩ := r
        rw [hx] at h
        injection h with h; injection h with h1 h2
        exact ⟨s, t1, x, rfl, by omega, by rw [hx, h2], h1.symm⟩
theorem dist_of {D : List Nat} {B : List UInt8} {t s t1 x t' : Nat} (h1 : sym D B t = .ok (s, t1)) (h2 : s ≤ 29) (h3 : spanV B s 2 t1 = .ok (x, t')) : distV D B t = .ok (1 + x, t') := by
  unfold distV
  rw [h1]; simp only; rw [if_neg (by omega), h3]
theorem Ag.dist (h : Ag B C m) {D : List Nat} {t v t' : Nat} (hv : distV D B t = .ok (v, t')) (ht : t' ≤ 8 * m) : distV D C t = .ok (v, t') := by
  obtain ⟨s, t1, x, h1, h2, h3, rfl⟩ := dist_parts hv
  have := span_ge h3
  exact dist_of (h.sym h1 (by omega)) h2 (h.span h3 ht)
theorem dist_ge {D : List Nat} {B : List UInt8} {t v t' : Nat} (hv : distV D B t = .ok (v, t')) : t ≤ t' := by
  obtain ⟨s, t1, x, h1, h2, h3, rfl⟩ := dist_parts hv
  have a1 := span_ge h3
  have a2 := sym_in h1
  omega
/-- One symbol, and what it does. -/
inductive PStep (S D : List Nat) (B : List UInt8) (t : Nat) (out : List UInt8) : List UInt8 → Nat → Prop where
  | put (s t1 : Nat) (o : List UInt8) : sym S B t = .ok (s, t1) → s < 256 → putV' out (UInt8.ofNat s) = .ok o → PStep S D B t out o t1
  | again (s t1 n t2 back t3 : Nat) (o : List UInt8) : sym S B t = .ok (s, t1) → 256 < s → s ≤ 285 → lenV B s t1 = .ok (n, t2) → distV D B t2 = .ok (back, t3) → againV n back out = .ok o → PStep S D B t out o t3
theorem PStep.lt {S D : List Nat} {B : List UInt8} {t t' : Nat} {out o : List UInt8} (h : PStep S D B t out o t') : t < t' := by
  cases h with
  | put s t1 o h1 h2 h3 => exact (sym_in h1).2.1
  | again s t1 n t2 back t3 o h1 h2 h3 h4 h5 h6 =>
    have := (sym_in h1).2.1
    have := len_ge h4
    have := dist_ge h5
    omega
theorem PStep.go {S D : List Nat} {B : List UInt8} {t t' : Nat} {out o : List UInt8} (h : PStep S D B t out o t') (f : Nat) : pressGo S D B (f + 1) t out = pressGo S D B f t' o := by
  cases h with
  | put s t1 o h1 h2 h3 => rw [pressGo, h1]; simp only; rw [if_pos h2, h3]
  | again s t1 n t2 back t3 o h1 h2 h3 h4 h5 h6 =>
    rw [pressGo, h1]
    simp only
    rw [if_neg (by omega), if_neg (by omega), if_neg (by omega), h4]
    simp only
    rw [h5]
    simp only
    rw [h6]
theorem Ag.pstep (h : Ag B C m) {S D : List Nat} {t t' : Nat} {out o : List UInt8} (e : PStep S D B t out o t') (ht : t' ≤ 8 * m) : PStep S D C t out o t' := by
  cases e with
  | put s t1 o h1 h2 h3 => exact .put s _ o (h.sym h1 ht) h2 h3
  | again s t1 n t2 back t3 o h1 h2 h3 h4 h5 h6 =>
    have a1 := len_ge h4
    have a2 := dist_ge h5
    exact .again s t1 n t2 back _ o (h.sym h1 (by omega)) h2 h3 (h.len h4 (by omega)) (h.dist h5 ht) h6
theorem press_parts {S D : List Nat} {B : List UInt8} {f t t' : Nat} {out o : List UInt8} (h : pressGo S D B (f + 1) t out = .ok (o, t')) : (sym S B t = .ok (256, t') ∧ o = out) ∨ ∃ o1 t1, PStep S D B t out o1 t1 ∧ pressGo S D B f t1 o1 = .ok (o, t') := by
  rw [pressGo] at h
  cases hs : sym S B t with
  | error k => rw [hs] at h; cases h
  | ok r =>
    obtain ⟨s, t1⟩ := r
    rw [hs] at h
    simp only at h
    by_cases e1 : s < 256
    · rw [if_pos e1] at h
      cases hp : putV' out (UInt8.ofNat s) with
      | error k => rw [hp] at h; cases h
      | ok o1 => rw [hp] at h; exact .inr ⟨o1, t1, .put s t1 o1 hs e1 hp, h⟩
    · rw [if_neg e1] at h
      by_cases e2 : s = 256
      · rw [if_pos e2] at h
        injection h with h; injection h with h1 h2
        exact .inl ⟨by rw [e2, h2], h1.symm⟩
      · rw [if_neg e2] at h
        by_cases e3 : 285 < s
        · rw [if_pos e3] at h; cases h
        · rw [if_neg e3] at h
          cases hl : lenV B s t1 with
          | error k => rw [hl] at h; cases h
          | ok r =>
            obtain ⟨n, t2⟩ := r
            rw [hl] at h
            simp only at h
            cases hd : distV D B t2 with
            | error k => rw [hd] at h; cases h
            | ok r =>
              obtain ⟨back, t3⟩ := r
              rw [hd] at h
              simp only at h
              cases ha : againV n back out with
              | error k => rw [ha] at h; cases h
              | ok o1 =>
                rw [ha] at h
                exact .inr ⟨o1, t3, .again s t1 n t2 back t3 o1 hs (by omega) (by omega) hl hd ha, h⟩
theorem press_ge (S D : List Nat) (B : List UInt8) : ∀ f t out o t', pressGo S D B f t out = .ok (o, t') → t < t'
  | 0, t, out, o, t', h => by cases h
  | f + 1, t, out, o, t', h => by
    rcases press_parts h with ⟨h1, -⟩ | ⟨o1, t1, h1, h2⟩
    · exact (sym_in h1).2.1
    · have a1 := h1.lt
      have a2 := press_ge S D B f _ _ _ _ h2
      omega
theorem Ag.press (h : Ag B C m) {S D : List Nat} : ∀ f g t out o t', pressGo S D B f t out = .ok (o, t') → t' ≤ 8 * m → 8 * m < g + t → pressGo S D C g t out = .ok (o, t')
  | 0, g, t, out, o, t', e, _, _ => by cases e
  | f + 1, g, t, out, o, t', e, ht, hg => by
    have a1 := press_ge S D B _ _ _ _ _ e
    obtain ⟨g, rfl⟩ : ∃ x, g = x + 1 := ⟨g - 1, by omega⟩
    rcases press_parts e with ⟨h1, rfl⟩ | ⟨o1, t1, h1, h2⟩
    · rw [pressGo, h.sym h1 ht]
      simp only
      rw [if_neg (by decide), if_pos trivial]
    · have a2 := h1.lt
      have a3 := press_ge S D B _ _ _ _ _ h2
      rw [(h.pstep h1 (by omega)).go]
      exact h.press f g t1 o1 o t' h2 ht (by omega)
theorem Ag.storedGo (h : Ag B C m) : ∀ n t out o t', storedGo B n t out = .ok (o, t') → t' ≤ 8 * m → storedGo C n t out = .ok (o, t')
  | 0, t, out, o, t', e, _ => e
  | n + 1, t, out, o, t', e, ht => by
    have hc := h.there
    rw [Ix.storedGo] at e ⊢
    by_cases e1 : t / 8 = B.length
    · rw [if_pos e1] at e; cases e
    · rw [if_neg e1] at e
      cases hp : putV' out (B.getD (t / 8) 0) with
      | error k => rw [hp] at e; cases e
      | ok o1 =>
        rw [hp] at e
        simp only at e
        have := storedGo_ge B _ _ _ _ _ e
        rw [if_neg (by omega), ← h.same (t / 8) (by omega), hp]
        exact h.storedGo n _ _ _ _ e ht
theorem Ag.stored (h : Ag B C m) {t t' : Nat} {out o : List UInt8} (e : storedV B t out = .ok (o, t')) (ht : t' ≤ 8 * m) : storedV C t out = .ok (o, t') := by
  have hc := h.there
  unfold storedV at e ⊢
  by_cases e1 : up8 t + 32 ≤ 8 * B.length
  · rw [if_pos e1] at e
    by_cases e2 : numAt B 16 (up8 t) + numAt B 16 (up8 t + 16) = 65535
    · rw [if_pos e2] at e
      have := storedGo_ge B _ _ _ _ _ e
      rw [if_pos (by omega), ← h.num (up8 t) 16 (by omega), ← h.num (up8 t + 16) 16 (by omega), if_pos e2]
      exact h.storedGo _ _ _ _ _ e ht
    · rw [if_neg e2] at e; cases e
  · rw [if_neg e1] at e; cases e
theorem Ag.run (h : Ag B C m) {s t n times t' : Nat} {acc : List Nat} (e : runV B s t acc = .ok (n, times, t')) (ht : t' ≤ 8 * m) : runV C s t acc = .ok (n, times, t') := by
  have hc := h.there
  unfold runV at *
  by_cases e1 : s = 16
  · rw [if_pos e1] at e ⊢
    by_cases e2 : acc.length = 0
    · rw [if_pos e2] at e; cases e
    · rw [if_neg e2] at e ⊢
      by_cases e3 : t + 2 ≤ 8 * B.length
      · rw [if_pos e3] at e
        injection e with e; injection e with h1 h2; injection h2 with h2 h3
        rw [if_pos (by omega), ← h.num t 2 (by omega), h1, h2, h3]
      · rw [if_neg e3] at e; cases e
  · rw [if_neg e1] at e ⊢
    by_cases e2 : s = 17
    · rw [if_pos e2] at e ⊢
      by_cases e3 : t + 3 ≤ 8 * B.length
      · rw [if_pos e3] at e
        injection e with e; injection e with h1 h2; injection h2 with h2 h3
        rw [if_pos (by omega), ← h.num t 3 (by omega), h1, h2, h3]
      · rw [if_neg e3] at e; cases e
    · rw [if_neg e2] at e ⊢
      by_cases e4 : s = 18
      · rw [if_pos e4] at e ⊢
        by_cases e3 : t + 7 ≤ 8 * B.length
        · rw [if_pos e3] at e
          injection e with e; injection e with h1 h2; injection h2 with h2 h3
          rw [if_pos (by omega), ← h.num t 7 (by omega), h1, h2, h3]
        · rw [if_neg e3] at e; cases e
      · rw [if_neg e4] at e ⊢; exact e
theorem run_ge {B : List UInt8} {s t n times t' : Nat} {acc : List Nat} (e : runV B s t acc = .ok (n, times, t')) : t ≤ t' := by
  unfold runV at e
  by_cases e1 : s = 16
  · rw [if_pos e1] at e
    by_cases e2 : acc.length = 0
    · rw [if_pos e2] at e; cases e
    · rw [if_neg e2] at e
      by_cases e3 : t + 2 ≤ 8 * B.length
      · rw [if_pos e3] at e
        injection e with e; injection e with h1 h2; injection h2 with h2 h3
        omega
      · rw [if_neg e3] at e; cases e
  · rw [if_neg e1] at e
    by_cases e2 : s = 17
    · rw [if_pos e2] at e
      by_cases e3 : t + 3 ≤ 8 * B.length
      · rw [if_pos e3] at e
        injection e with e; injection e with h1 h2; injection h2 with h2 h3
        omega
      · rw [if_neg e3] at e; cases e
    · rw [if_neg e2] at e
      by_cases e4 : s = 18
      · rw [if_pos e4] at e
        by_cases e3 : t + 7 ≤ 8 * B.length
        · rw [if_pos e3] at e
          injection e with e; injection e with h1 h2; injection h2 with h2 h3
          omega
        · rw [if_neg e3] at e; cases e
      · rw [if_neg e4] at e
        injection e with e; injection e with h1 h2; injection h2 with h2 h3
        omega
theorem lens_parts {S : List Nat} {B : List UInt8} {all f t t' : Nat} {acc l : List Nat} (h : lensGo S B all (f + 1) t acc = .ok (l, t')) : (all ≤ acc.length ∧ l = acc ∧ t' = t) ∨ ∃ s t1 n times t2, acc.length < all ∧ sym S B t = .ok (s, t1) ∧ runV B s t1 acc = .ok (n, times, t2) ∧ times ≤ all - acc.length ∧ lensGo S B all f t2 (acc ++ List.replicate times n) = .ok (l, t') := by
  by_cases e : all ≤ acc.length
  · rw [lens_end e] at h
    injection h with h; injection h with h1 h2
    exact .inl ⟨e, h1.symm, h2.symm⟩
  · cases hs : sym S B t with
    | error k => rw [lens_no (by omega) hs] at h; cases h
    | ok r =>
      obtain ⟨s, t1⟩ := r
      cases hr : runV B s t1 acc with
      | error k => rw [lens_run (by omega) hs hr] at h; cases h
      | ok r =>
        obtain ⟨n, times, t2⟩ := r
        by_cases hm : all - acc.length < times
        · rw [lens_many (by omega) hs hr hm] at h; cases h
        · rw [lens_step (by omega) hs hr (by omega)] at h
          exact .inr ⟨s, t1, n, times, t2, by omega, rfl, hr, by omega, h⟩
theorem lens_ge (S : List Nat) (B : List UInt8) (all : Nat) : ∀ f t acc l t', lensGo S B all f t acc = .ok (l, t') → t ≤ t'
  | 0, t, acc, l, t', h => by cases h
  | f + 1, t, acc, l, t', h => by
    rcases lens_parts h with ⟨-, -, rfl⟩ | ⟨s, t1, n, times, t2, h1, h2, h3, h4, h5⟩
    · exact Nat.le_refl _
    · have a1 := (sym_in h2).2.1
      have a2 := run_ge h3
      have a3 := lens_ge S B all f _ _ _ _ h5
      omega
theorem Ag.lens (h : Ag B C m) (S : List Nat) (all : Nat) : ∀ f t acc l t', lensGo S B all f t acc = .ok (l, t') → t' ≤ 8 * m → lensGo S C all f t acc = .ok (l, t')
  | 0, t, acc, l, t', e, _ => by cases e
  | f + 1, t, acc, l, t', e, ht => by
    rcases lens_parts e with ⟨h1, rfl, rfl⟩ | ⟨s, t1, n, times, t2, h1, h2, h3, h4, h5⟩
    · exact lens_end h1
    · have a2 := run_ge h3
      have a3 := lens_ge S B all f _ _ _ _ h5
      rw [lens_step h1 (h.sym h2 (by omega)) (h.run h3 (by omega)) h4]
      exact h.lens S all f _ _ _ _ h5 ht
theorem Ag.shortTo (h : Ag B C m) (t : Nat) : ∀ i s, t + 3 * i ≤ 8 * m → shortTo B t i s = shortTo C t i s
  | 0, s, _ => rfl
  | i + 1, s, hi => by rw [Ix.shortTo, Ix.shortTo, h.num (t + 3 * i) 3 (by omega), h.shortTo t i s (by omega)]
theorem Ag.shortL (h : Ag B C m) (k t : Nat) (hk : t + 3 * k ≤ 8 * m) : shortL B k t = shortL C k t := by
  unfold Ix.shortL
  exact List.map_congr_left fun s _ => h.shortTo t k s hk
theorem Ag.own (h : Ag B C m) {t t' : Nat} {S D : List Nat} (e : ownV B t = .ok (S, D, t')) (ht : t' ≤ 8 * m) : ownV C t = .ok (S, D, t') := by
  have hc := h.there
  unfold ownV at e
  by_cases e1 : t + 14 ≤ 8 * B.length
  · rw [if_pos e1] at e
    by_cases e2 : 286 < numAt B 5 t + 257 ∨ 30 < numAt B 5 (t + 5) + 1
    · rw [if_pos e2] at e; cases e
    · rw [if_neg e2] at e
      by_cases e3 : t + 14 + 3 * (numAt B 4 (t + 10) + 4) ≤ 8 * B.length
      · rw [if_pos e3] at e
        by_cases e4 : isTree (Ix.shortL B (numAt B 4 (t + 10) + 4) (t + 14)) = false
        · rw [if_pos e4] at e; cases e
        · rw [if_neg e4] at e
          cases hl : lensGo (Ix.shortL B (numAt B 4 (t + 10) + 4) (t + 14)) B (numAt B 5 t + 257 + (numAt B 5 (t + 5) + 1)) (numAt B 5 t + 257 + (numAt B 5 (t + 5) + 1) + 1) (t + 14 + 3 * (numAt B 4 (t + 10) + 4)) [] with
          | error k => rw [hl] at e; cases e
          | ok r =>
            obtain ⟨l, t2⟩ := r
            rw [hl] at e
            have a1 := lens_ge _ _ _ _ _ _ _ _ hl
            have a2 : t2 = t' := by
              unfold ownEnd at e
              simp only at e
              split at e
              · cases e
              · split at e
                · cases e
                · split at e
                  · cases e
                  · injection e with e; injection e with x1 x2; injection x2 with x2 x3
            have hl2 := h.lens _ _ _ _ _ _ _ hl (by omega)
            rw [h.shortL _ _ (by omega)] at hl2 e4
            unfold ownV
            rw [← h.num t 5 (by omega), ← h.num (t + 5) 5 (by omega), ← h.num (t + 10) 4 (by omega), if_pos (by omega), if_neg e2, if_pos (by omega), if_neg e4, hl2]
            exact e
      · rw [if_neg e3] at e; cases e
  · rw [if_neg e1] at e; cases e
theorem Ag.kind (h : Ag B C m) {k t t' : Nat} {out o : List UInt8} (e : kindV k B t out = .ok (o, t')) (ht : t' ≤ 8 * m) : kindV k C t out = .ok (o, t') := by
  have hc := h.there
  unfold kindV at *
  by_cases e1 : k = 0
  · rw [if_pos e1] at e ⊢; exact h.stored e ht
  · rw [if_neg e1] at e ⊢
    by_cases e2 : k = 1
    · rw [if_pos e2] at e ⊢; exact h.press _ _ _ _ _ _ e ht (by omega)
    · rw [if_neg e2] at e ⊢
      by_cases e3 : k = 2
      · rw [if_pos e3] at e ⊢
        cases ho : ownV B t with
        | error k => rw [ho] at e; cases e
        | ok r =>
          obtain ⟨S, D, t1⟩ := r
          rw [ho, ownBlkV] at e
          have := press_ge S D B _ _ _ _ _ e
          rw [h.own ho (by omega), ownBlkV]
          exact h.press _ _ _ _ _ _ e ht (by omega)
      · rw [if_neg e3] at e; cases e
theorem kind_ge {B : List UInt8} {k t t' : Nat} {out o : List UInt8} (e : kindV k B t out = .ok (o, t')) : t ≤ t' := by
  unfold kindV at e
  by_cases e1 : k = 0
  · rw [if_pos e1] at e
    unfold storedV at e
    split at e
    · split at e
      · have := storedGo_ge B _ _ _ _ _ e; unfold up8 at this; omega
      · cases e
    · cases e
  · rw [if_neg e1] at e
    by_cases e2 : k = 1
    · rw [if_pos e2] at e
      have := press_ge _ _ _ _ _ _ _ _ e; omega
    · rw [if_neg e2] at e
      by_cases e3 : k = 2
      · rw [if_pos e3] at e
        cases ho : ownV B t with
        | error k => rw [ho] at e; cases e
        | ok r =>
          obtain ⟨S, D, t1⟩ := r
          rw [ho, ownBlkV] at e
          have := press_ge S D B _ _ _ _ _ e
          have a := ownV_ok ho
          omega
      · rw [if_neg e3] at e; cases e
theorem block_parts {B : List UInt8} {t t' : Nat} {out o : List UInt8} {last : Bool} (h : blockV B t out = .ok (last, o, t')) : t + 3 ≤ 8 * B.length ∧ last = (bitAt B t == 1) ∧ kindV (numAt B 2 (t + 1)) B (t + 3) out = .ok (o, t') := by
  unfold blockV at h
  by_cases e : t + 3 ≤ 8 * B.length
  · rw [if_pos e] at h
    cases hk : kindV (numAt B 2 (t + 1)) B (t + 3) out with
    | error k => rw [hk] at h; cases h
    | ok r =>
      obtain ⟨o1, t1⟩ := r
      rw [hk] at h
      injection h with h; injection h with h1 h2; injection h2 with h2 h3
      exact ⟨e, h1.symm, by rw [h2, h3]⟩
  · rw [if_neg e] at h; cases h
theorem block_gt {B : List UInt8} {t t' : Nat} {out o : List UInt8} {last : Bool} (h : blockV B t out = .ok (last, o, t')) : t + 3 ≤ t' := kind_ge (block_parts h).2.2
theorem Ag.block (h : Ag B C m) {t t' : Nat} {out o : List UInt8} {last : Bool} (e : blockV B t out = .ok (last, o, t')) (ht : t' ≤ 8 * m) : blockV C t out = .ok (last, o, t') := by
  have hc := h.there
  have hg := block_gt e
  obtain ⟨h1, h2, h3⟩ := block_parts e
  unfold blockV
  rw [if_pos (by omega), ← h.num (t + 1) 2 (by omega), ← h.bit (t := t) (by omega), h.kind h3 ht, h2]; rfl
theorem rawGo_ge (B : List UInt8) : ∀ f t out o n, rawGo B f t out = .ok (o, n) → t + 3 ≤ 8 * n
  | 0, t, out, o, n, h => by cases h
  | f + 1, t, out, o, n, h => by
    cases hb : blockV B t out with
    | error k => rw [raw_no hb] at h; cases h
    | ok r =>
      obtain ⟨last, o1, t1⟩ := r
      have := block_gt hb
      cases last with
      | true => rw [raw_last hb] at h; injection h with h; injection h with h1 h2; omega
      | false => rw [raw_more hb] at h; have := rawGo_ge B f _ _ _ _ h; omega
theorem Ag.rawGo (h : Ag B C m) : ∀ f g t out o n, rawGo B f t out = .ok (o, n) → n ≤ m → 8 * m < g + t → rawGo C g t out = .ok (o, n)
  | 0, g, t, out, o, n, e, _, _ => by cases e
  | f + 1, g, t, out, o, n, e, hn, hg => by
    have a0 := rawGo_ge B _ _ _ _ _ e
    obtain ⟨g, rfl⟩ : ∃ x, g = x + 1 := ⟨g - 1, by omega⟩
    cases hb : blockV B t out with
    | error k => rw [raw_no hb] at e; cases e
    | ok r =>
      obtain ⟨last, o1, t1⟩ := r
      have a1 := block_gt hb
      cases last with
      | true =>
        rw [raw_last hb] at e
        injection e with e; injection e with h1 h2
        rw [raw_last (h.block hb (by omega)), h1, h2]
      | false =>
        rw [raw_more hb] at e
        have a2 := rawGo_ge B f _ _ _ _ e
        rw [raw_more (h.block hb (by omega))]
        exact h.rawGo f g t1 o1 o n e hn (by omega)
theorem Ag.raw (h : Ag B C m) {o : List UInt8} {n : Nat} (e : rawV B = .ok (o, n)) (hn : n ≤ m) : rawV C = .ok (o, n) := by
  have hc := h.there
  exact h.rawGo _ _ _ _ _ _ e hn (by omega)
end
theorem zlib_parts {B o : List UInt8} {n : Nat} (h : zlibV B = .ok (o, n)) : 2 ≤ B.length ∧ headV (B.getD 0 0) (B.getD 1 0) = true ∧ ∃ k, n = k + 6 ∧ rawV (B.drop 2) = .ok (o, k) ∧ k + 6 ≤ B.length ∧ sumV ((B.drop 2).drop k) = adler o := by
  unfold zlibV at h
  by_cases e1 : B.length < 2
  · rw [if_pos e1] at h; cases h
  · rw [if_neg e1] at h
    by_cases e2 : headV (B.getD 0 0) (B.getD 1 0) = false
    · rw [if_pos e2] at h; cases h
    · rw [if_neg e2] at h
      cases hr : rawV (B.drop 2) with
      | error k => rw [hr] at h; cases h
      | ok r =>
        obtain ⟨o1, k⟩ := r
        rw [hr, tailV] at h
        by_cases e3 : B.length - 2 - k < 4
        · rw [if_pos e3] at h; cases h
        · rw [if_neg e3] at h
          by_cases e4 : sumV ((B.drop 2).drop k) = adler o1
          · rw [if_pos e4] at h
            injection h with h; injection h with h1 h2
            subst h1
            exact ⟨by omega, by simpa using e2, k, h2.symm, rfl, by omega, e4⟩
          · rw [if_neg e4] at h; cases h
theorem zlib_of {B o : List UInt8} {k : Nat} (h1 : 2 ≤ B.length) (h2 : headV (B.getD 0 0) (B.getD 1 0) = true) (h3 : rawV (B.drop 2) = .ok (o, k)) (h4 : k + 6 ≤ B.length) (h5 : sumV ((B.drop 2).drop k) = adler o) : zlibV B = .ok (o, k + 6) := by
  unfold zlibV
  rw [if_neg (by omega), if_neg (by rw [h2]; simp), h3, tailV, if_neg (by omega), if_pos h5]
theorem zlib_cut {B o : List UInt8} {k : Nat} (h1 : 2 ≤ B.length) (h2 : headV (B.getD 0 0) (B.getD 1 0) = true) (h3 : rawV (B.drop 2) = .ok (o, k)) (h4 : B.length < k + 6) : zlibV B = .error 4 := by
  unfold zlibV
  rw [if_neg (by omega), if_neg (by rw [h2]; simp), h3, tailV, if_pos (by omega)]
/-- As long as it is told, whatever stands behind. -/
theorem zlib_behind {B o : List UInt8} {n : Nat} (h : zlibV B = .ok (o, n)) : 6 ≤ n ∧ n ≤ B.length ∧ (∀ M, zlibV (B.take n ++ M) = .ok (o, n)) ∧ zlibV (B.take (n - 1)) = .error 4 := by
  obtain ⟨h1, h2, k, rfl, h4, h5, h6⟩ := zlib_parts h
  refine ⟨by omega, h5, fun M => ?_, ?_⟩
  · have hl : (B.take (k + 6)).length = k + 6 := by rw [List.length_take]; omega
    have hd : (B.take (k + 6) ++ M).drop 2 = (B.drop 2).take (k + 4) ++ M := by
      rw [List.drop_append_of_le_length (by omega), List.drop_take]
      rfl
    have hl2 : ((B.drop 2).take (k + 4)).length = k + 4 := by rw [List.length_take, List.length_drop]; omega
    have g := fun i (hi : i < k + 6) => (getD_app (B.take (k + 6)) M i (by omega)).trans (getD_take B (k + 6) i hi)
    refine zlib_of (by rw [List.length_append]; omega) (by rw [g 0 (by omega), g 1 (by omega)]; exact h2) ?_ (by rw [List.length_append]; omega) ?_
    · rw [hd]
      refine Ag.raw (m := k + 4) ⟨by rw [List.length_drop]; omega, by rw [List.length_append]; omega, fun i hi => ?_⟩ h4 (by omega)
      rw [getD_app _ _ _ (by omega), getD_take _ _ _ hi]
    · rw [hd, List.drop_append_of_le_length (by omega), List.drop_take]
      have e4 : (((B.drop 2).drop k).take (k + 4 - k)).length = 4 := by rw [List.length_take, List.length_drop, List.length_drop]; omega
      have : sumV (((B.drop 2).drop k).take (k + 4 - k) ++ M) = sumV ((B.drop 2).drop k) := by
        unfold sumV
        rw [List.take_append_of_le_length (by omega), List.take_take]
        congr 2
        omega
      rw [this]; exact h6
  · have hl : (B.take (k + 6 - 1)).length = k + 5 := by rw [List.length_take]; omega
    have g := fun i (hi : i < k + 6 - 1) => getD_take B (k + 6 - 1) i hi
    refine zlib_cut (k := k) (o := o) (by omega) (by rw [g 0 (by omega), g 1 (by omega)]; exact h2) ?_ (by omega)
    rw [List.drop_take]
    refine Ag.raw (m := k + 3) ⟨by rw [List.length_drop]; omega, by rw [List.length_take, List.length_drop]; omega, fun i hi => ?_⟩ h4 (by omega)
    rw [getD_take _ _ _ (by omega)]

end Go.Proofs.YtpplboihlndfpaaDoor.Ix

namespace Go.Proofs.YtpplboihlndfpaaDoor.Ix
set_option linter.unusedSimpArgs false
set_option linter.unusedVariables false

def numB (f : Nat → Nat) : Nat → Nat → Nat
  | 0, _ => 0
  | n + 1, t => numB f n t + f (t + n) * 2 ^ n
theorem numB_lt (f : Nat → Nat) (hf : ∀ i, f i < 2) (t : Nat) : ∀ n, numB f n t < 2 ^ n
  | 0 => by simp [numB]
  | n + 1 => by
    have h := numB_lt f hf t n
    have hb := hf (t + n)
    rw [numB, Nat.pow_succ]
    have : f (t + n) * 2 ^ n ≤ 1 * 2 ^ n := Nat.mul_le_mul_right _ (by omega)
    omega
theorem numB_bit (f : Nat → Nat) (hf : ∀ i, f i < 2) (t j : Nat) : ∀ n, j < n → numB f n t / 2 ^ j % 2 = f (t + j)
  | 0, h => by omega
  | n + 1, h => by
    rw [numB]
    by_cases e : j = n
    · subst e
      have h1 := numB_lt f hf t j
      have h2 := hf (t + j)
      rw [Nat.add_mul_div_right _ _ (Nat.two_pow_pos j), Nat.div_eq_of_lt h1]
      omega
    · have ih := numB_bit f hf t j n (by omega)
      obtain ⟨d, hd⟩ : ∃ d, n = j + (d + 1) := ⟨n - j - 1, by omega⟩
      have h2 : f (t + n) * 2 ^ n = (f (t + n) * 2 ^ d * 2) * 2 ^ j := by
        rw [hd, Nat.pow_add, Nat.pow_succ]
        simp only [Nat.mul_assoc, Nat.mul_comm, Nat.mul_left_comm]
      rw [h2, Nat.add_mul_div_right _ _ (Nat.two_pow_pos j)]
      omega
def pk (f : Nat → Nat) (i : Nat) : List UInt8 := (List.range ((i + 7) / 8)).map fun m => UInt8.ofNat (numB f (min 8 (i - 8 * m)) (8 * m))
theorem pk_len (f : Nat → Nat) (i : Nat) : (pk f i).length = (i + 7) / 8 := by simp [pk]
theorem pk_getD (f : Nat → Nat) (hf : ∀ i, f i < 2) (i m : Nat) (h : m < (i + 7) / 8) : ((pk f i).getD m 0).toNat = numB f (min 8 (i - 8 * m)) (8 * m) := by
  have h1 := numB_lt f hf (8 * m) (min 8 (i - 8 * m))
  have h2 : 2 ^ min 8 (i - 8 * m) ≤ 2 ^ 8 := Nat.pow_le_pow_right (by decide) (Nat.min_le_left _ _)
  unfold pk
  simp only [List.getD, List.getElem?_map, List.getElem?_range h, Option.map_some, Option.getD_some, UInt8.toNat_ofNat']
  exact Nat.mod_eq_of_lt (by omega)
theorem pk_bit (f : Nat → Nat) (hf : ∀ i, f i < 2) (i t : Nat) (h : t < i) : bitAt (pk f i) t = f t := by
  unfold bitAt
  rw [pk_getD f hf i (t / 8) (by omega), numB_bit f hf (8 * (t / 8)) (t % 8) _ (by omega)]
  congr 1; omega
/-- Ahead of a bit: its byte is there. -/
def pkA (f : Nat → Nat) (i : Nat) : List UInt8 := if i % 8 = 0 then pk f i ++ [0] else pk f i
theorem pkA_len (f : Nat → Nat) (i : Nat) : (pkA f i).length = i / 8 + 1 := by
  unfold pkA
  split
  · rw [List.length_append, pk_len]; simp; omega
  · rw [pk_len]; omega
theorem pkA_at (f : Nat → Nat) (hf : ∀ i, f i < 2) (i : Nat) : ((pkA f i).getD (i / 8) 0).toNat = numB f (i % 8) (8 * (i / 8)) := by
  unfold pkA
  split
  · rename_i h
    have e : (pk f i).length = i / 8 := by rw [pk_len]; omega
    rw [h]
    simp [List.getD, List.getElem?_append_right, e, numB]
  · rw [pk_getD f hf i _ (by omega)]
    congr 1; omega
theorem pk_step (f : Nat → Nat) (hf : ∀ i, f i < 2) (i : Nat) : (pkA f i).set (i / 8) (UInt8.ofNat (numB f (i % 8) (8 * (i / 8)) + f i * 2 ^ (i % 8))) = pk f (i + 1) := by
  apply List.ext_getElem?
  intro m
  have hl := pkA_len f i
  by_cases hm : m = i / 8
  · subst hm
    rw [List.getElem?_set_self (by omega)]
    unfold pk
    rw [List.getElem?_map, List.getElem?_range (by omega), Option.map_some]
    congr 2
    rw [show min 8 (i + 1 - 8 * (i / 8)) = i % 8 + 1 by omega, numB]
    rw [show 8 * (i / 8) + i % 8 = i by omega]
  · rw [List.getElem?_set_ne (by omega)]
    by_cases h : m < i / 8
    · have e1 : (pkA f i)[m]? = (pk f i)[m]? := by
        unfold pkA
        split
        · rw [List.getElem?_append_left (by rw [pk_len]; omega)]
        · rfl
      rw [e1]
      unfold pk
      rw [List.getElem?_map, List.getElem?_map, List.getElem?_range (by omega), List.getElem?_range (by omega), Option.map_some, Option.map_some]
      congr 3
      omega
    · rw [List.getElem?_eq_none (by omega), List.getElem?_eq_none (by rw [pk_len]; omega)]

/-- The bits of letters, with what stands ahead of them and behind. -/
def bitF (S : List UInt8) (t : Nat) : Nat :=
  if t < 2 then 1 else if t = 2 then 0 else if t - 3 < 8 * S.length then ((S.getD ((t - 3) / 8) 0).toNat + 48) / 2 ^ (7 - (t - 3) % 8) % 2 else 0
theorem bitF_lt (S : List UInt8) (t : Nat) : bitF S t < 2 := by
  unfold bitF
  split
  · omega
  · split
    · omega
    · split
      · exact Nat.mod_lt _ (by decide)
      · omega
theorem bitF_letter (S : List UInt8) (i q : Nat) (h : i < S.length) (hq : q < 8) : bitF S (3 + 8 * i + q) = (S[i].toNat + 48) / 2 ^ (7 - q) % 2 := by
  unfold bitF
  rw [if_neg (by omega), if_neg (by omega), if_pos (by omega), show (3 + 8 * i + q - 3) / 8 = i by omega, show (3 + 8 * i + q - 3) % 8 = q by omega]
  simp [List.getD, h]
theorem bitF_end (S : List UInt8) (i : Nat) (h : 3 + 8 * S.length ≤ i) : bitF S i = 0 := by
  unfold bitF
  rw [if_neg (by omega), if_neg (by omega), if_neg (by omega)]
theorem letBits_of (S B : List UInt8) (hb : ∀ t, t < 10 + 8 * S.length → bitAt B t = bitF S t) : ∀ (R : List UInt8) (k : Nat), k ≤ S.length → S.drop k = R → letBits B (3 + 8 * k) R
  | [], k, hk, h => by
    have hl : S.length ≤ k := by
      have := congrArg List.length h
      rw [List.length_drop] at this
      simp at this; omega
    intro i hi
    rw [hb _ (by omega), bitF_end S _ (by omega)]
  | x :: r, k, hk, h => by
    have hl : k < S.length := by
      have := congrArg List.length h
      rw [List.length_drop] at this
      simp at this; omega
    rw [List.drop_eq_getElem_cons hl] at h
    injection h with h1 h2
    refine ⟨fun i hi => ?_, ?_⟩
    · rw [hb _ (by omega), bitF_letter S k i hl hi, h1]
    · have := letBits_of S B hb r (k + 1) hl h2
      rwa [show 3 + 8 * (k + 1) = 3 + 8 * k + 8 by omega] at this
theorem raw_packed (S : List UInt8) (hx : ∀ x ∈ S, 97 ≤ x.toNat ∧ x.toNat ≤ 122) (hs : S.length ≤ 300) : rawV (pk (bitF S) (10 + 8 * S.length)) = .ok (S, S.length + 2) := by
  have hl : (pk (bitF S) (10 + 8 * S.length)).length = S.length + 2 := by rw [pk_len]; omega
  have hb : ∀ t, t < 10 + 8 * S.length → bitAt (pk (bitF S) (10 + 8 * S.length)) t = bitF S t := fun t h => pk_bit _ (bitF_lt S) _ t h
  have z := raw_letters _ S (by rw [hb 0 (by omega)]; rfl) (by rw [hb 1 (by omega)]; rfl) (by rw [hb 2 (by omega)]; rfl) (letBits_of S _ hb S 0 (Nat.zero_le _) rfl) hx hl hs
  rw [hl] at z; exact z
theorem bits_step (f : Nat → Nat) (t : Nat) : (List.range (t + 1)).map f = (List.range t).map f ++ [f t] := by
  rw [List.range_succ, List.map_append]; rfl
theorem bits_end (S : List UInt8) : (List.range (3 + 8 * S.length)).map (bitF S) ++ [0, 0, 0, 0, 0, 0, 0] = (List.range (10 + 8 * S.length)).map (bitF S) := by
  have e := fun i (h : i < 7) => bitF_end S (3 + 8 * S.length + i) (by omega)
  rw [show 10 + 8 * S.length = 3 + 8 * S.length + 1 + 1 + 1 + 1 + 1 + 1 + 1 by omega]
  iterate 7 rw [bits_step]
  have e0 := e 0 (by decide)
  have e1 := e 1 (by decide)
  have e2 := e 2 (by decide)
  have e3 := e 3 (by decide)
  have e4 := e 4 (by decide)
  have e5 := e 5 (by decide)
  have e6 := e 6 (by decide)
  simp only [Nat.add_zero] at e0
  simp only [Nat.add_assoc, Nat.reduceAdd] at *
  rw [e0, e1, e2, e3, e4, e5, e6]
  simp

end Go.Proofs.YtpplboihlndfpaaDoor.Ix

namespace Go.Proofs.YtpplboihlndfpaaDoor.Dx
set_option linter.unusedSimpArgs false
set_option linter.unusedVariables false

structure Tok where
  lit : UInt8
  len : Int
  dist : Int

/-- The byte at a place. -/
def at' (b : List UInt8) (i : Nat) : UInt8 := b.getD i 0
theorem at_getElem (b : List UInt8) (i : Nat) (h : i < b.length) : b[i] = at' b i := by simp [at', List.getD, h]

/-- How many of so many bytes from i on are those from j on. -/
def mat (b : List UInt8) (i j : Nat) : Nat → Nat
  | 0 => 0
  | k + 1 => if mat b i j k = k ∧ at' b (i + k) = at' b (j + k) then k + 1 else mat b i j k
theorem mat_le (b : List UInt8) (i j : Nat) : ∀ k, mat b i j k ≤ k
  | 0 => Nat.le_refl _
  | k + 1 => by
    have := mat_le b i j k
    rw [mat]; split <;> omega
theorem mat_all (b : List UInt8) (i j : Nat) : ∀ k, (∀ t, t < k → at' b (i + t) = at' b (j + t)) → mat b i j k = k
  | 0, _ => rfl
  | k + 1, h => by
    rw [mat, if_pos ⟨mat_all b i j k (fun t ht => h t (by omega)), h k (by omega)⟩]
theorem mat_eq (b : List UInt8) (i j : Nat) : ∀ k t, t < mat b i j k → at' b (i + t) = at' b (j + t)
  | 0, t, h => by simp [mat] at h
  | k + 1, t, h => by
    rw [mat] at h
    split at h
    · rename_i c
      by_cases e : t = k
      · subst e; exact c.2
      · exact mat_eq b i j k t (by omega)
    · exact mat_eq b i j k t h
theorem mat_ne (b : List UInt8) (i j : Nat) : ∀ k, mat b i j k < k → at' b (i + mat b i j k) ≠ at' b (j + mat b i j k)
  | 0, h => by omega
  | k + 1, h => by
    rw [mat] at h ⊢
    split at h
    · omega
    · rename_i c
      rw [if_neg c]
      by_cases e : mat b i j k = k
      · intro e2; rw [e] at e2; exact c ⟨e, e2⟩
      · exact mat_ne b i j k (by have := mat_le b i j k; omega)
theorem mat_is {b : List UInt8} {i j k n : Nat} (h : ∀ t, t < n → at' b (i + t) = at' b (j + t)) (hn : n ≤ k) (he : n = k ∨ at' b (i + n) ≠ at' b (j + n)) : mat b i j k = n := by
  have h1 := mat_le b i j k
  by_cases c : mat b i j k < n
  · exact absurd (h _ c) (mat_ne b i j k (by omega))
  · by_cases d : n < mat b i j k
    · rcases he with e | e
      · omega
      · exact absurd (mat_eq b i j k n d) e
    · omega

/-- As many bytes as a match at i may have. -/
def top (b : List UInt8) (i : Nat) : Nat := min 258 (b.length - i)
def M (b : List UInt8) (i j : Nat) : Nat := mat b i j (top b i)
theorem M_le (b : List UInt8) (i j : Nat) : M b i j ≤ top b i := mat_le _ _ _ _
theorem top_le (b : List UInt8) (i : Nat) : top b i ≤ 258 ∧ top b i ≤ b.length - i := by unfold top; omega
theorem M_three {b : List UInt8} {i j : Nat} (h : 3 ≤ M b i j) : at' b i = at' b j ∧ at' b (i + 1) = at' b (j + 1) ∧ at' b (i + 2) = at' b (j + 2) :=
  ⟨mat_eq b i j (top b i) 0 (by unfold M at h; omega), mat_eq b i j (top b i) 1 (by unfold M at h; omega), mat_eq b i j (top b i) 2 (by unfold M at h; omega)⟩

/-- The longest match at i of those from lo up to hi, and of these the one that is nearest. -/
structure Best (b : List UInt8) (i lo hi n d : Nat) : Prop where
  le : ∀ j, lo ≤ j → j < hi → i ≤ j + 32768 → M b i j < 3 ∨ M b i j ≤ n
  none : n = 0 → d = 0
  some : n ≠ 0 → 3 ≤ n ∧ d ≤ i ∧ lo + d ≤ i ∧ i < hi + d ∧ d ≤ 32768 ∧ M b i (i - d) = n ∧ ∀ j, i < j + d → j < hi → M b i j < n
theorem Best.start (b : List UInt8) (i k : Nat) : Best b i k k 0 0 := ⟨fun j h1 h2 => by omega, fun _ => rfl, fun h => absurd rfl h⟩
/-- One more below; those between say nothing. -/
theorem Best.below {b : List UInt8} {i lo hi n d : Nat} (h : Best b i lo hi n d) (j : Nat) (hj : j < lo) (hhi : hi ≤ i) (hlo : lo ≤ hi) (h3 : 3 ≤ M b i j) (hd : i ≤ j + 32768) (hb : ∀ t, j < t → t < lo → M b i t < 3) :
    (n < M b i j → Best b i j hi (M b i j) (i - j)) ∧ (M b i j ≤ n → Best b i j hi n d) := by
  constructor
  · intro hn
    refine ⟨fun t h1 h2 h4 => ?_, fun e => by omega, fun _ => ⟨h3, by omega, by omega, by omega, by omega, by rw [show i - (i - j) = j by omega], fun t ht h2 => ?_⟩⟩
    · by_cases e : t = j
      · subst e; exact .inr (Nat.le_refl _)
      · by_cases c : t < lo
        · exact .inl (hb t (by omega) c)
        · rcases h.le t (by omega) h2 h4 with k | k
          · exact .inl k
          · exact .inr (by omega)
    · by_cases c : t < lo
      · have := hb t (by omega) c; omega
      · rcases h.le t (by omega) h2 (by omega) with k | k
        · omega
        · omega
  · intro hn
    refine ⟨fun t h1 h2 h4 => ?_, h.none, fun e => ?_⟩
    · by_cases e : t = j
      · subst e; exact .inr hn
      · by_cases c : t < lo
        · exact .inl (hb t (by omega) c)
        · exact h.le t (by omega) h2 h4
    · obtain ⟨a1, a2, a3, a4, a5, a6, a7⟩ := h.some e
      exact ⟨a1, a2, by omega, a4, a5, a6, a7⟩
/-- Those below say nothing. -/
theorem Best.down {b : List UInt8} {i lo hi n d : Nat} (h : Best b i lo hi n d) (hh : ∀ t, t < lo → i ≤ t + 32768 → M b i t < 3 ∨ M b i t ≤ n) : Best b i 0 hi n d := by
  refine ⟨fun t h1 h2 h4 => ?_, h.none, fun e => ?_⟩
  · by_cases c : t < lo
    · exact hh t c h4
    · exact h.le t (by omega) h2 h4
  · obtain ⟨a1, a2, a3, a4, a5, a6, a7⟩ := h.some e
    exact ⟨a1, a2, by omega, a4, a5, a6, a7⟩
/-- One more above. -/
theorem Best.above {b : List UInt8} {i lo hi n d : Nat} (h : Best b i lo hi n d) (hhi : hi < i) (hd : i ≤ hi + 32768) (hlo : lo ≤ hi) :
    (3 ≤ M b i hi ∧ n ≤ M b i hi → Best b i lo (hi + 1) (M b i hi) (i - hi)) ∧ (¬ (3 ≤ M b i hi ∧ n ≤ M b i hi) → Best b i lo (hi + 1) n d) := by
  constructor
  · rintro ⟨h3, hn⟩
    refine ⟨fun t h1 h2 h4 => ?_, fun e => by omega, fun _ => ⟨h3, by omega, by omega, by omega, by omega, by rw [show i - (i - hi) = hi by omega], fun t ht h2 => by omega⟩⟩
    by_cases e : t = hi
    · subst e; exact .inr (Nat.le_refl _)
    · rcases h.le t h1 (by omega) h4 with k | k
      · exact .inl k
      · exact .inr (by omega)
  · intro hc
    refine ⟨fun t h1 h2 h4 => ?_, h.none, fun e => ?_⟩
    · by_cases e : t = hi
      · subst e; omega
      · exact h.le t h1 (by omega) h4
    · obtain ⟨a1, a2, a3, a4, a5, a6, a7⟩ := h.some e
      refine ⟨a1, a2, a3, by omega, a5, a6, fun t ht h2 => ?_⟩
      by_cases e : t = hi
      · subst e; omega
      · exact a7 t ht (by omega)
theorem Best.uniq {b : List UInt8} {i n d n' d' : Nat} (h : Best b i 0 i n d) (k : Best b i 0 i n' d') : n = n' ∧ d = d' := by
  by_cases e : n = 0
  · by_cases e' : n' = 0
    · exact ⟨by omega, by rw [h.none e, k.none e']⟩
    · obtain ⟨a1, a2, a3, a4, a5, a6, a7⟩ := k.some e'
      rcases h.le (i - d') (Nat.zero_le _) (by omega) (by omega) with c | c <;> omega
  · obtain ⟨a1, a2, a3, a4, a5, a6, a7⟩ := h.some e
    by_cases e' : n' = 0
    · rcases k.le (i - d) (Nat.zero_le _) (by omega) (by omega) with c | c <;> omega
    · obtain ⟨b1, b2, b3, b4, b5, b6, b7⟩ := k.some e'
      have c1 := h.le (i - d') (Nat.zero_le _) (by omega) (by omega)
      have c2 := k.le (i - d) (Nat.zero_le _) (by omega) (by omega)
      have e3 : n = n' := by omega
      refine ⟨e3, ?_⟩
      by_cases g : d < d'
      · have := b7 (i - d) (by omega) (by omega); omega
      · by_cases g : d' < d
        · have := a7 (i - d') (by omega) (by omega); omega
        · omega

def dn (b : List UInt8) (i : Nat) : Nat → Nat × Nat → Nat × Nat
  | 0, r => r
  | j + 1, r => dn b i j (if i ≤ j + 32768 ∧ 3 ≤ M b i j ∧ r.1 < M b i j then (M b i j, i - j) else r)
/-- The longest match at a place, and how far ahead it is. -/
def long (b : List UInt8) (i : Nat) : Nat × Nat := dn b i i (0, 0)
theorem dn_best (b : List UInt8) (i : Nat) : ∀ (j : Nat) (r : Nat × Nat), j ≤ i → Best b i j i r.1 r.2 → Best b i 0 i (dn b i j r).1 (dn b i j r).2
  | 0, r, _, h => h
  | j + 1, r, hj, h => by
    rw [dn]
    apply dn_best b i j _ (by omega)
    by_cases c : i ≤ j + 32768 ∧ 3 ≤ M b i j
    · have z := h.below j (by omega) (Nat.le_refl _) hj c.2 c.1 (fun t h1 h2 => by omega)
      by_cases d : r.1 < M b i j
      · rw [if_pos ⟨c.1, c.2, d⟩]; exact z.1 d
      · rw [if_neg (by omega)]; exact z.2 (by omega)
    · rw [if_neg (by omega)]
      refine ⟨fun t h1 h2 h4 => ?_, h.none, fun e => ?_⟩
      · by_cases e : t = j
        · subst e; omega
        · exact h.le t (by omega) h2 h4
      · obtain ⟨a1, a2, a3, a4, a5, a6, a7⟩ := h.some e
        exact ⟨a1, a2, by omega, a4, a5, a6, a7⟩
theorem long_best (b : List UInt8) (i : Nat) : Best b i 0 i (long b i).1 (long b i).2 := dn_best b i i (0, 0) (Nat.le_refl _) (Best.start b i i)
theorem long_is {b : List UInt8} {i n d : Nat} (h : Best b i 0 i n d) : long b i = (n, d) := by
  obtain ⟨h1, h2⟩ := (long_best b i).uniq h
  rw [← h1, ← h2]
theorem long_le (b : List UInt8) (i : Nat) : (long b i).1 ≤ top b i ∧ (long b i).2 ≤ 32768 := by
  have h := long_best b i
  by_cases e : (long b i).1 = 0
  · rw [e, h.none e]; omega
  · obtain ⟨a1, a2, a3, a4, a5, a6, a7⟩ := h.some e
    have := M_le b i (i - (long b i).2)
    omega

/-- The nearest place ahead of the k-th where the three bytes stand that stand at i. -/
def near (b : List UInt8) (i : Nat) : Nat → Option Nat
  | 0 => none
  | k + 1 => if at' b k = at' b i ∧ at' b (k + 1) = at' b (i + 1) ∧ at' b (k + 2) = at' b (i + 2) then some k else near b i k
theorem near_lt (b : List UInt8) (i : Nat) : ∀ k j, near b i k = some j → j < k
  | 0, j, h => by cases h
  | k + 1, j, h => by
    rw [near] at h
    split at h
    · injection h with h; omega
    · have := near_lt b i k j h; omega
theorem near_is (b : List UInt8) (i : Nat) : ∀ k j, near b i k = some j → at' b j = at' b i ∧ at' b (j + 1) = at' b (i + 1) ∧ at' b (j + 2) = at' b (i + 2)
  | 0, j, h => by cases h
  | k + 1, j, h => by
    rw [near] at h
    split at h
    · rename_i c; injection h with h; subst h; exact c
    · exact near_is b i k j h
theorem near_none (b : List UInt8) (i : Nat) : ∀ k t, (∀ j, near b i k = some j → j < t) → t < k → ¬ (at' b t = at' b i ∧ at' b (t + 1) = at' b (i + 1) ∧ at' b (t + 2) = at' b (i + 2))
  | 0, t, _, h => by omega
  | k + 1, t, h, ht => by
    rw [near] at h
    split at h
    · have := h k rfl; omega
    · rename_i c
      by_cases e : t = k
      · subst e; exact c
      · exact near_none b i k t h (by omega)
/-- What nextAhead says of a place. -/
def ahd (b : List UInt8) (i : Nat) : Option Nat := if i + 3 ≤ b.length then near b i i else none
/-- A place with the same three bytes has the same places ahead of it. -/
theorem near_same {b : List UInt8} {i j : Nat} (h : at' b j = at' b i ∧ at' b (j + 1) = at' b (i + 1) ∧ at' b (j + 2) = at' b (i + 2)) : ∀ k, near b j k = near b i k
  | 0 => rfl
  | k + 1 => by rw [near, near, h.1, h.2.1, h.2.2, near_same h k]

/-- Bytes as tokens, from a place on. -/
def toks (b : List UInt8) : Nat → Nat → List Tok
  | 0, _ => []
  | f + 1, i => if i < b.length then
      if (long b i).1 = 0 then ⟨at' b i, 0, 0⟩ :: toks b f (i + 1) else ⟨0, (long b i).1, (long b i).2⟩ :: toks b f (i + (long b i).1)
    else []
def tokens (b : List UInt8) : List Tok := toks b b.length 0
theorem toks_end (b : List UInt8) : ∀ f i, b.length ≤ i → toks b f i = []
  | 0, i, _ => rfl
  | f + 1, i, h => by rw [toks, if_neg (by omega)]
theorem toks_lit {b : List UInt8} {f i : Nat} (h : i < b.length) (hf : b.length ≤ f + i) (h0 : (long b i).1 = 0) : ∃ g, b.length ≤ g + (i + 1) ∧ toks b f i = ⟨at' b i, 0, 0⟩ :: toks b g (i + 1) := by
  obtain ⟨g, rfl⟩ : ∃ g, f = g + 1 := ⟨f - 1, by omega⟩
  exact ⟨g, by omega, by rw [toks, if_pos h, if_pos h0]⟩
theorem toks_match {b : List UInt8} {f i : Nat} (h : i < b.length) (hf : b.length ≤ f + i) (h0 : (long b i).1 ≠ 0) : ∃ g, b.length ≤ g + (i + (long b i).1) ∧ toks b f i = ⟨0, (long b i).1, (long b i).2⟩ :: toks b g (i + (long b i).1) := by
  obtain ⟨g, rfl⟩ : ∃ g, f = g + 1 := ⟨f - 1, by omega⟩
  exact ⟨g, by omega, by rw [toks, if_pos h, if_neg h0]⟩

/-- As many bytes again as are so far back. -/
def copy (d : Nat) : Nat → List UInt8 → List UInt8
  | 0, o => o
  | n + 1, o => copy d n (o ++ [at' o (o.length - d)])
theorem copy_len (d : Nat) : ∀ n o, (copy d n o).length = o.length + n
  | 0, o => rfl
  | n + 1, o => by rw [copy, copy_len d n]; simp; omega
/-- How many bytes tokens are, if they may be. -/
def sizeGo : List Tok → Nat → Option Nat
  | [], n => some n
  | t :: r, n => if t.len < 0 ∨ 258 < t.len ∨ 0 < t.len ∧ (t.dist < 1 ∨ (n : Int) < t.dist) then none else sizeGo r (n + max t.len.toNat 1)
def expGo : List Tok → List UInt8 → List UInt8
  | [], o => o
  | t :: r, o => expGo r (if t.len = 0 then o ++ [t.lit] else copy t.dist.toNat t.len.toNat o)
def expandV (l : List Tok) : Except Int (List UInt8) := match sizeGo l 0 with
  | none => .error 1
  | some n => if 1048576 < n then .error 6 else .ok (expGo l [])

/-- What tokens of bytes are, is the bytes. -/
theorem copy_take (b : List UInt8) (i d : Nat) (hd : 1 ≤ d) (hi : d ≤ i) : ∀ n k, i + k + n ≤ b.length → (∀ t, t < k + n → at' b (i + t) = at' b (i - d + t)) → copy d n (b.take (i + k)) = b.take (i + k + n)
  | 0, k, _, _ => rfl
  | n + 1, k, hl, h => by
    have hlen : (b.take (i + k)).length = i + k := by rw [List.length_take]; omega
    have e : b.take (i + k) ++ [at' (b.take (i + k)) ((b.take (i + k)).length - d)] = b.take (i + (k + 1)) := by
      rw [hlen]
      have h1 : at' (b.take (i + k)) (i + k - d) = at' b (i + k - d) := by
        unfold at'
        simp [List.getD, List.getElem?_take, show i + k - d < i + k by omega]
      rw [h1, show i + k - d = i - d + k by omega, ← h k (by omega), ← at_getElem b (i + k) (by omega)]
      exact (List.take_succ_eq_append_getElem (by omega)).symm
    rw [copy, e, copy_take b i d hd hi n (k + 1) (by omega) (fun t ht => h t (by omega))]
    congr 1; omega
theorem toks_back (b : List UInt8) : ∀ f i, b.length ≤ f + i → i ≤ b.length → sizeGo (toks b f i) i = some b.length ∧ expGo (toks b f i) (b.take i) = b
  | 0, i, h, hi => by
    obtain rfl : i = b.length := by omega
    exact ⟨rfl, by simp [toks, expGo]⟩
  | f + 1, i, h, hi => by
    by_cases c : i < b.length
    · by_cases e : (long b i).1 = 0
      · have := toks_back b f (i + 1) (by omega) (by omega)
        rw [toks, if_pos c, if_pos e]
        refine ⟨?_, ?_⟩
        · rw [sizeGo, if_neg (by simp)]; exact this.1
        · rw [expGo]
          simp only [if_true]
          rw [← at_getElem b i c, ← List.take_succ_eq_append_getElem c]
          exact this.2
      · obtain ⟨a1, a2, a3, a4, a5, a6, a7⟩ := (long_best b i).some e
        have hM := M_le b i (i - (long b i).2)
        have ht := top_le b i
        have hd0 : 1 ≤ (long b i).2 := by omega
        have := toks_back b f (i + (long b i).1) (by omega) (by omega)
        rw [toks, if_pos c, if_neg e]
        refine ⟨?_, ?_⟩
        · rw [sizeGo, if_neg (by simp only; omega)]
          simp only [Int.toNat_natCast]
          rw [show max (long b i).1 1 = (long b i).1 by omega]
          exact this.1
        · rw [expGo]
          simp only
          rw [if_neg (by omega)]
          simp only [Int.toNat_natCast]
          have z := copy_take b i (long b i).2 hd0 a2 (long b i).1 0 (by omega) (fun t ht => by
            rw [Nat.zero_add] at ht
            have := mat_eq b i (i - (long b i).2) (top b i) t (by unfold M at a6; omega)
            exact this)
          rw [Nat.add_zero] at z
          rw [z]
          exact this.2
    · obtain rfl : i = b.length := by omega
      rw [toks_end b _ _ (Nat.le_refl _)]
      exact ⟨rfl, by simp [expGo]⟩
theorem expand_tokens (b : List UInt8) (h : b.length ≤ 1048576) : expandV (tokens b) = .ok b := by
  obtain ⟨h1, h2⟩ := toks_back b b.length 0 (by omega) (by omega)
  unfold expandV
  show (match sizeGo (toks b b.length 0) 0 with | none => _ | some n => _) = _
  rw [h1]
  simp only
  rw [if_neg (by omega)]
  exact congrArg _ h2
theorem toks_len (b : List UInt8) : ∀ f i, (toks b f i).length ≤ f
  | 0, i => Nat.le_refl _
  | f + 1, i => by
    rw [toks]
    split
    · split
      · have := toks_len b f (i + 1); simp; omega
      · have := toks_len b f (i + (long b i).1); simp; omega
    · simp
theorem tokens_len (b : List UInt8) : (tokens b).length ≤ b.length := toks_len b _ _

end Go.Proofs.YtpplboihlndfpaaDoor.Dx

namespace Go.Proofs.YtpplboihlndfpaaDoor.Dx
open Ix
set_option linter.unusedSimpArgs false
set_option linter.unusedVariables false

/-- So many lowest bits of a number, the lowest one first. -/
def numBits (v : Nat) : Nat → List Nat
  | 0 => []
  | n + 1 => numBits v n ++ [v / 2 ^ n % 2]
/-- A code of n bits, its highest one first: the first i of them. -/
def codeTo (v n : Nat) : Nat → List Nat
  | 0 => []
  | i + 1 => codeTo v n i ++ [v / 2 ^ (n - 1 - i) % 2]
def codeBits (v n : Nat) : List Nat := codeTo v n n
theorem numBits_len (v : Nat) : ∀ n, (numBits v n).length = n
  | 0 => rfl
  | n + 1 => by rw [numBits, List.length_append, numBits_len v n]; rfl
theorem codeTo_len (v n : Nat) : ∀ i, (codeTo v n i).length = i
  | 0 => rfl
  | i + 1 => by rw [codeTo, List.length_append, codeTo_len v n i]; rfl
theorem codeBits_len (v n : Nat) : (codeBits v n).length = n := codeTo_len v n n
theorem numBits_get (v : Nat) : ∀ n i, i < n → (numBits v n).getD i 0 = v / 2 ^ i % 2
  | 0, i, h => by omega
  | n + 1, i, h => by
    rw [numBits]
    by_cases e : i = n
    · subst e; simp [List.getD, List.getElem?_append_right, numBits_len]
    · have := numBits_get v n i (by omega)
      simp only [List.getD] at this ⊢
      rw [List.getElem?_append_left (by rw [numBits_len]; omega)]; exact this
theorem codeTo_get (v n : Nat) : ∀ k i, i < k → (codeTo v n k).getD i 0 = v / 2 ^ (n - 1 - i) % 2
  | 0, i, h => by omega
  | k + 1, i, h => by
    rw [codeTo]
    by_cases e : i = k
    · subst e; simp [List.getD, List.getElem?_append_right, codeTo_len]
    · have := codeTo_get v n k i (by omega)
      simp only [List.getD] at this ⊢
      rw [List.getElem?_append_left (by rw [codeTo_len]; omega)]; exact this
theorem codeBits_get (v n i : Nat) (h : i < n) : (codeBits v n).getD i 0 = v / 2 ^ (n - 1 - i) % 2 := codeTo_get v n n i h

/-- The code of a byte, of a length, of the end; and how long it is. -/
def symC (s : Nat) : Nat := if s < 144 then 48 + s else if s < 256 then 256 + s else if s < 280 then s - 256 else s - 88
def symN (s : Nat) : Nat := if s < 144 then 8 else if s < 256 then 9 else if s < 280 then 7 else 8
def symBits (s : Nat) : List Nat := codeBits (symC s) (symN s)
/-- In which span a number is, and how many of its lowest bits tell which one of it. -/
def widV (n e : Nat) : Nat := Nat.log2 (n / e)
def spnV (n e : Nat) : Nat := widV n e * e + n / 2 ^ widV n e
def lenBits (n : Nat) : List Nat := if n = 258 then symBits 285 else symBits (257 + spnV (n - 3) 4) ++ numBits (n - 3) (widV (n - 3) 4)
def distBits (d : Nat) : List Nat := codeBits (spnV (d - 1) 2) 5 ++ numBits (d - 1) (widV (d - 1) 2)
def tokBits (t : Tok) : List Nat := if t.len = 0 then symBits t.lit.toNat else lenBits t.len.toNat ++ distBits t.dist.toNat
def toksBits : List Tok → List Nat
  | [] => []
  | t :: r => tokBits t ++ toksBits r
theorem toksBits_app : ∀ l m, toksBits (l ++ m) = toksBits l ++ toksBits m
  | [], m => rfl
  | t :: r, m => by rw [List.cons_append, toksBits, toksBits_app r m, toksBits, List.append_assoc]
def pressBits (l : List Tok) : List Nat := [1, 1, 0] ++ toksBits l ++ symBits 256

/-- Bits in bytes. -/
def bitF' (bs : List Nat) (t : Nat) : Nat := bs.getD t 0
def pkL (bs : List Nat) : List UInt8 := pk (bitF' bs) bs.length
def Bin (bs : List Nat) : Prop := ∀ x ∈ bs, x < 2
theorem Bin.lt {bs : List Nat} (h : Bin bs) (t : Nat) : bitF' bs t < 2 := by
  unfold bitF'
  by_cases c : t < bs.length
  · simp only [List.getD, List.getElem?_eq_getElem c, Option.getD_some]
    exact h _ (List.getElem_mem c)
  · simp [List.getD, List.getElem?_eq_none (Nat.not_lt.1 c)]
theorem Bin.app {a b : List Nat} (h : Bin a) (k : Bin b) : Bin (a ++ b) := fun x hx => by
  rcases List.mem_append.1 hx with m | m
  · exact h x m
  · exact k x m
theorem numBits_bin (v : Nat) : ∀ n, Bin (numBits v n)
  | 0 => fun x hx => by cases hx
  | n + 1 => (numBits_bin v n).app (fun x hx => by rw [List.mem_singleton.1 hx]; exact Nat.mod_lt _ (by decide))
theorem codeTo_bin (v n : Nat) : ∀ i, Bin (codeTo v n i)
  | 0 => fun x hx => by cases hx
  | i + 1 => (codeTo_bin v n i).app (fun x hx => by rw [List.mem_singleton.1 hx]; exact Nat.mod_lt _ (by decide))
theorem lenBits_bin (n : Nat) : Bin (lenBits n) := by
  unfold lenBits
  split
  · exact codeTo_bin _ _ _
  · exact (codeTo_bin _ _ _).app (numBits_bin _ _)
theorem tokBits_bin (t : Tok) : Bin (tokBits t) := by
  unfold tokBits
  split
  · exact codeTo_bin _ _ _
  · exact (lenBits_bin _).app ((codeTo_bin _ _ _).app (numBits_bin _ _))
theorem toksBits_bin : ∀ l, Bin (toksBits l)
  | [] => fun x hx => by cases hx
  | t :: r => (tokBits_bin t).app (toksBits_bin r)
theorem pressBits_bin (l : List Tok) : Bin (pressBits l) := by
  refine (Bin.app ?_ (toksBits_bin l)).app (codeTo_bin _ _ _)
  intro x hx
  rcases List.mem_cons.1 hx with rfl | hx
  · decide
  · rcases List.mem_cons.1 hx with rfl | hx
    · decide
    · rw [List.mem_singleton.1 hx]; decide
theorem numB_congr {f g : Nat → Nat} (t : Nat) : ∀ n, (∀ i, i < n → f (t + i) = g (t + i)) → numB f n t = numB g n t
  | 0, _ => rfl
  | n + 1, h => by rw [numB, numB, numB_congr t n (fun i hi => h i (by omega)), h n (by omega)]
theorem pk_congr {f g : Nat → Nat} {n : Nat} (h : ∀ i, i < n → f i = g i) : pk f n = pk g n := by
  unfold pk
  apply List.map_congr_left
  intro m hm
  rw [numB_congr (8 * m) _ (fun i hi => h _ (by omega))]
theorem pkL_len (bs : List Nat) : (pkL bs).length = (bs.length + 7) / 8 := pk_len _ _
/-- Ahead of one bit more: its byte is there. -/
def pkO (bs : List Nat) : List UInt8 := if bs.length % 8 = 0 then pkL bs ++ [0] else pkL bs
theorem pkO_len (bs : List Nat) : (pkO bs).length = bs.length / 8 + 1 := by
  have := pkA_len (bitF' bs) bs.length
  exact this
/-- What lies there ahead of a bit, and behind it. -/
theorem pkL_put {bs : List Nat} (h : Bin bs) (x : Nat) (hx : x < 2) :
    ((pkO bs).getD (bs.length / 8) 0).toNat < 2 ^ (bs.length % 8) ∧ (pkO bs).set (bs.length / 8) (UInt8.ofNat (((pkO bs).getD (bs.length / 8) 0).toNat + x * 2 ^ (bs.length % 8))) = pkL (bs ++ [x]) := by
  have h2 : Bin (bs ++ [x]) := h.app (fun y hy => by rw [List.mem_singleton.1 hy]; exact hx)
  have hb : ∀ i, i < bs.length → bitF' bs i = bitF' (bs ++ [x]) i := fun i hi => by
    unfold bitF'; simp [List.getD, List.getElem?_append_left hi]
  have e1 : pkL bs = pk (bitF' (bs ++ [x])) bs.length := pk_congr hb
  have e2 : pkO bs = pkA (bitF' (bs ++ [x])) bs.length := by unfold pkO pkA; rw [e1]
  have e3 : bitF' (bs ++ [x]) bs.length = x := by unfold bitF'; simp [List.getD]
  have a := pkA_at (bitF' (bs ++ [x])) h2.lt bs.length
  have s := pk_step (bitF' (bs ++ [x])) h2.lt bs.length
  rw [e2, a]
  refine ⟨numB_lt _ h2.lt _ _, ?_⟩
  rw [e3] at s
  rw [s]
  unfold pkL
  rw [List.length_append]
  rfl
theorem pkL_bit {bs : List Nat} (h : Bin bs) (t : Nat) (ht : t < bs.length) : bitAt (pkL bs) t = bs.getD t 0 := pk_bit _ h.lt _ _ ht

def pressV (l : List Tok) : List UInt8 := pkL (pressBits l)
def blkV (first : Nat) (b : List UInt8) : List UInt8 := [UInt8.ofNat first, UInt8.ofNat (b.length % 256), UInt8.ofNat (b.length / 256), UInt8.ofNat (255 - b.length % 256), UInt8.ofNat (255 - b.length / 256)] ++ b
/-- Bytes as blocks in which they stand as they are. -/
def stoGo : Nat → List UInt8 → List UInt8
  | 0, b => blkV 1 b
  | f + 1, b => if 65535 < b.length then blkV 0 (b.take 65535) ++ stoGo f (b.drop 65535) else blkV 1 b
def stoV (b : List UInt8) : List UInt8 := stoGo b.length b
theorem stoGo_last (f : Nat) {b : List UInt8} (h : b.length ≤ 65535) : stoGo f b = blkV 1 b := by
  cases f with
  | zero => rfl
  | succ f => rw [stoGo, if_neg (by omega)]
theorem stoGo_more {f : Nat} {b : List UInt8} (h : 65535 < b.length) (hf : b.length ≤ f) : ∃ g, b.length - 65535 ≤ g ∧ stoGo f b = blkV 0 (b.take 65535) ++ stoGo g (b.drop 65535) := by
  obtain ⟨g, rfl⟩ : ∃ g, f = g + 1 := ⟨f - 1, by omega⟩
  exact ⟨g, by omega, by rw [stoGo, if_pos h]⟩
def rawZ (b : List UInt8) (kind : Int) : Except Int (List UInt8) :=
  if kind ≠ 0 ∧ kind ≠ 1 then .error 1 else if 1048576 < b.length then .error 6 else if kind = 0 then .ok (stoV b) else .ok (pressV (tokens b))
def sumB (n : Nat) : List UInt8 := [UInt8.ofNat (n / 16777216), UInt8.ofNat (n / 65536 % 256), UInt8.ofNat (n / 256 % 256), UInt8.ofNat (n % 256)]
def zlibZ (b : List UInt8) (kind : Int) : Except Int (List UInt8) := match rawZ b kind with
  | .error e => .error e
  | .ok r => .ok ([120, 1] ++ r ++ sumB (adler b))

/-- Parts of a number in its span. -/
theorem span_parts (n e : Nat) (he : 0 < e) (he2 : e < 1000) (hn : n < 100000) : ∃ w q r, w = widV n e ∧ n / 2 ^ w = q ∧ n % 2 ^ w = r ∧ n = q * 2 ^ w + r ∧ q < 2 * e ∧ (w = 0 ∨ e ≤ q) ∧ spnV n e = w * e + q := by
  refine ⟨widV n e, n / 2 ^ widV n e, n % 2 ^ widV n e, rfl, rfl, rfl, ?_, ?_, ?_, rfl⟩
  · have := Nat.div_add_mod n (2 ^ widV n e)
    rw [Nat.mul_comm] at this; omega
  · have h : n / e < 2 ^ (widV n e + 1) := Nat.lt_log2_self
    rw [Nat.div_lt_iff_lt_mul (Nat.two_pow_pos _)]
    rw [Nat.div_lt_iff_lt_mul he, Nat.pow_succ] at h
    have : 2 ^ widV n e * 2 * e = 2 * e * 2 ^ widV n e := by rw [Nat.mul_assoc, Nat.mul_comm]
    omega
  · by_cases h0 : n / e = 0
    · left; unfold widV; rw [h0]; rfl
    · right
      have h : 2 ^ widV n e ≤ n / e := Nat.log2_self_le h0
      rw [Nat.le_div_iff_mul_le he] at h
      rw [Nat.le_div_iff_mul_le (Nat.two_pow_pos _), Nat.mul_comm]; exact h
theorem spn_len (n : Nat) (h : n ≤ 254) : spnV n 4 ≤ 27 := by
  have key : (List.range 255).all (fun n => decide (spnV n 4 ≤ 27)) = true := by kernel_rfl
  exact of_decide_eq_true (List.all_eq_true.1 key n (List.mem_range.2 (by omega)))
theorem wid_len (n : Nat) (h : n ≤ 255) : widV n 4 ≤ 5 := by
  have key : (List.range 256).all (fun n => decide (widV n 4 ≤ 5)) = true := by kernel_rfl
  exact of_decide_eq_true (List.all_eq_true.1 key n (List.mem_range.2 (by omega)))
theorem wid_dist (n : Nat) (h : n ≤ 32767) : widV n 2 ≤ 13 := by
  unfold widV
  by_cases h0 : n / 2 = 0
  · rw [h0]; decide
  · have := (Nat.log2_lt h0 (k := 14)).2 (by omega)
    omega
theorem spn_dist (n : Nat) (h : n ≤ 32767) : spnV n 2 ≤ 29 := by
  obtain ⟨w, q, r, h1, h2, h3, h4, h5, h6, h7⟩ := span_parts n 2 (by decide) (by decide) (by omega)
  have := wid_dist n h
  omega

/-- The document's examples. -/
theorem tokens_example : tokens [97, 97, 97, 97] = [⟨97, 0, 0⟩, ⟨0, 3, 1⟩] := by kernel_rfl
theorem zlib_example : zlibZ [97] 1 = .ok [120, 1, 75, 4, 0, 0, 98, 0, 98] := by kernel_rfl

end Go.Proofs.YtpplboihlndfpaaDoor.Dx

namespace Go.Proofs.YtpplboihlndfpaaDoor.Dx
open Ix
set_option linter.unusedSimpArgs false
set_option linter.unusedVariables false

theorem fix_beh9 : beh fixS 9 = 512 ∧ fst fixS 9 = 400 := by refine ⟨?_, ?_⟩ <;> kernel_rfl
theorem pos7 : pos fixS 7 = (List.range 24).map (· + 256) := by kernel_rfl
theorem pos8 : pos fixS 8 = List.range 144 ++ (List.range 8).map (· + 280) := by kernel_rfl
theorem pos9 : pos fixS 9 = (List.range 112).map (· + 144) := by kernel_rfl
theorem pos5 : pos fixD 5 = List.range 32 := by kernel_rfl
theorem fixd_beh : beh fixD 1 = 0 ∧ beh fixD 2 = 0 ∧ beh fixD 3 = 0 ∧ beh fixD 4 = 0 ∧ beh fixD 5 = 32 ∧ fst fixD 5 = 0 := by
  refine ⟨?_, ?_, ?_, ?_, ?_, ?_⟩ <;> kernel_rfl

/-- The bits from a place on are these. -/
def BitsAt (B : List UInt8) (t : Nat) (bs : List Nat) : Prop := ∀ i, i < bs.length → bitAt B (t + i) = bs.getD i 0
theorem BitsAt.left {B : List UInt8} {t : Nat} {a c : List Nat} (h : BitsAt B t (a ++ c)) : BitsAt B t a := fun i hi => by
  rw [h i (by rw [List.length_append]; omega)]
  simp only [List.getD, List.getElem?_append_left hi]
theorem BitsAt.right {B : List UInt8} {t : Nat} {a c : List Nat} (h : BitsAt B t (a ++ c)) : BitsAt B (t + a.length) c := fun i hi => by
  rw [Nat.add_assoc, h (a.length + i) (by rw [List.length_append]; omega)]
  simp only [List.getD]
  rw [List.getElem?_append_right (by omega), Nat.add_sub_cancel_left]

theorem sym_seven (B : List UInt8) (t c s : Nat) (hc : c < 24) (hs : s = c + 256) (hl : t + 7 ≤ 8 * B.length) (hb : BitsAt B t (codeBits c 7)) : sym fixS B t = .ok (s, t + 7) := by
  obtain ⟨e1, e2, e3, e4, e5, e6, e7, e8, f7, f8⟩ := fix_beh
  have hb' : ∀ i, i < 7 → bitAt B (t + i) = c / 2 ^ (6 - i) % 2 := fun i hi => by rw [hb i (by rw [codeBits_len]; exact hi), codeBits_get c 7 i hi]
  have b0 := hb' 0 (by decide)
  have b1 := hb' 1 (by decide)
  have b2 := hb' 2 (by decide)
  have b3 := hb' 3 (by decide)
  have b4 := hb' 4 (by decide)
  have b5 := hb' 5 (by decide)
  have b6 := hb' 6 (by decide)
  simp only [Nat.add_zero, Nat.reduceSub, Nat.reducePow, Nat.div_one] at b0 b1 b2 b3 b4 b5 b6
  unfold sym
  rw [sym_skip fixS B 14 1 0 t (c / 64) _ (by omega) b0 (by omega) (by rw [e1]; omega)]
  rw [sym_skip fixS B 13 2 _ (t + 1) (c / 32) _ (by omega) b1 (by omega) (by rw [e2]; omega)]
  rw [sym_skip fixS B 12 3 _ (t + 2) (c / 16) _ (by omega) b2 (by omega) (by rw [e3]; omega)]
  rw [sym_skip fixS B 11 4 _ (t + 3) (c / 8) _ (by omega) b3 (by omega) (by rw [e4]; omega)]
  rw [sym_skip fixS B 10 5 _ (t + 4) (c / 4) _ (by omega) b4 (by omega) (by rw [e5]; omega)]
  rw [sym_skip fixS B 9 6 _ (t + 5) (c / 2) _ (by omega) b5 (by omega) (by rw [e6]; omega)]
  rw [sym_hit fixS B 8 7 _ (t + 6) c _ s (by omega) b6 (by omega) (by rw [e7, f7]; omega) (by rw [f7, pos7, hs]; simp [List.getD, hc])]
theorem sym_eight (B : List UInt8) (t c s : Nat) (h1 : 48 ≤ c) (h2 : c < 200) (hs : s = if c < 192 then c - 48 else c + 88) (hl : t + 8 ≤ 8 * B.length) (hb : BitsAt B t (codeBits c 8)) : sym fixS B t = .ok (s, t + 8) := by
  obtain ⟨e1, e2, e3, e4, e5, e6, e7, e8, f7, f8⟩ := fix_beh
  have hb' : ∀ i, i < 8 → bitAt B (t + i) = c / 2 ^ (7 - i) % 2 := fun i hi => by rw [hb i (by rw [codeBits_len]; exact hi), codeBits_get c 8 i hi]
  have b0 := hb' 0 (by decide)
  have b1 := hb' 1 (by decide)
  have b2 := hb' 2 (by decide)
  have b3 := hb' 3 (by decide)
  have b4 := hb' 4 (by decide)
  have b5 := hb' 5 (by decide)
  have b6 := hb' 6 (by decide)
  have b7 := hb' 7 (by decide)
  simp only [Nat.add_zero, Nat.reduceSub, Nat.reducePow, Nat.div_one] at b0 b1 b2 b3 b4 b5 b6 b7
  have hp : (pos fixS 8).getD (c - 48) 0 = s := by
    rw [pos8, hs]
    by_cases e : c < 192
    · rw [if_pos e]
      simp only [List.getD]
      rw [List.getElem?_append_left (by simp; omega)]
      simp [show c - 48 < 144 by omega]
    · rw [if_neg e]
      simp only [List.getD]
      rw [List.getElem?_append_right (by simp; omega)]
      simp [show c - 48 - 144 < 8 by omega]
      omega
  unfold sym
  rw [sym_skip fixS B 14 1 0 t (c / 128) _ (by omega) b0 (by omega) (by rw [e1]; omega)]
  rw [sym_skip fixS B 13 2 _ (t + 1) (c / 64) _ (by omega) b1 (by omega) (by rw [e2]; omega)]
  rw [sym_skip fixS B 12 3 _ (t + 2) (c / 32) _ (by omega) b2 (by omega) (by rw [e3]; omega)]
  rw [sym_skip fixS B 11 4 _ (t + 3) (c / 16) _ (by omega) b3 (by omega) (by rw [e4]; omega)]
  rw [sym_skip fixS B 10 5 _ (t + 4) (c / 8) _ (by omega) b4 (by omega) (by rw [e5]; omega)]
  rw [sym_skip fixS B 9 6 _ (t + 5) (c / 4) _ (by omega) b5 (by omega) (by rw [e6]; omega)]
  rw [sym_skip fixS B 8 7 _ (t + 6) (c / 2) _ (by omega) b6 (by omega) (by rw [e7, f7]; omega)]
  rw [sym_hit fixS B 7 8 _ (t + 7) c _ s (by omega) b7 (by omega) (by rw [e8, f8]; omega) (by rw [f8]; exact hp)]
theorem sym_nine (B : List UInt8) (t c s : Nat) (h1 : 400 ≤ c) (h2 : c < 512) (hs : s = c - 256) (hl : t + 9 ≤ 8 * B.length) (hb : BitsAt B t (codeBits c 9)) : sym fixS B t = .ok (s, t + 9) := by
  obtain ⟨e1, e2, e3, e4, e5, e6, e7, e8, f7, f8⟩ := fix_beh
  obtain ⟨e9, f9⟩ := fix_beh9
  have hb' : ∀ i, i < 9 → bitAt B (t + i) = c / 2 ^ (8 - i) % 2 := fun i hi => by rw [hb i (by rw [codeBits_len]; exact hi), codeBits_get c 9 i hi]
  have b0 := hb' 0 (by decide)
  have b1 := hb' 1 (by decide)
  have b2 := hb' 2 (by decide)
  have b3 := hb' 3 (by decide)
  have b4 := hb' 4 (by decide)
  have b5 := hb' 5 (by decide)
  have b6 := hb' 6 (by decide)
  have b7 := hb' 7 (by decide)
  have b8 := hb' 8 (by decide)
  simp only [Nat.add_zero, Nat.reduceSub, Nat.reducePow, Nat.div_one] at b0 b1 b2 b3 b4 b5 b6 b7 b8
  unfold sym
  rw [sym_skip fixS B 14 1 0 t (c / 256) _ (by omega) b0 (by omega) (by rw [e1]; omega)]
  rw [sym_skip fixS B 13 2 _ (t + 1) (c / 128) _ (by omega) b1 (by omega) (by rw [e2]; omega)]
  rw [sym_skip fixS B 12 3 _ (t + 2) (c / 64) _ (by omega) b2 (by omega) (by rw [e3]; omega)]
  rw [sym_skip fixS B 11 4 _ (t + 3) (c / 32) _ (by omega) b3 (by omega) (by rw [e4]; omega)]
  rw [sym_skip fixS B 10 5 _ (t + 4) (c / 16) _ (by omega) b4 (by omega) (by rw [e5]; omega)]
  rw [sym_skip fixS B 9 6 _ (t + 5) (c / 8) _ (by omega) b5 (by omega) (by rw [e6]; omega)]
  rw [sym_skip fixS B 8 7 _ (t + 6) (c / 4) _ (by omega) b6 (by omega) (by rw [e7, f7]; omega)]
  rw [sym_skip fixS B 7 8 _ (t + 7) (c / 2) _ (by omega) b7 (by omega) (by rw [e8, f8]; omega)]
  rw [sym_hit fixS B 6 9 _ (t + 8) c _ s (by omega) b8 (by omega) (by rw [e9, f9]; omega) (by rw [f9, pos9, hs]; simp [List.getD, show c - 400 < 112 by omega]; omega)]
theorem symBits_len (s : Nat) : (symBits s).length = symN s := codeBits_len _ _
theorem sym_fix (B : List UInt8) (t s : Nat) (hs : s < 288) (hl : t + symN s ≤ 8 * B.length) (hb : BitsAt B t (symBits s)) : sym fixS B t = .ok (s, t + symN s) := by
  unfold symBits symC symN at hb
  unfold symN at hl ⊢
  by_cases c1 : s < 144
  · rw [if_pos c1, if_pos c1] at hb
    rw [if_pos c1] at hl ⊢
    exact sym_eight B t (48 + s) s (by omega) (by omega) (by rw [if_pos (by omega)]; omega) hl hb
  · rw [if_neg c1, if_neg c1] at hb
    rw [if_neg c1] at hl ⊢
    by_cases c2 : s < 256
    · rw [if_pos c2, if_pos c2] at hb
      rw [if_pos c2] at hl ⊢
      exact sym_nine B t (256 + s) s (by omega) (by omega) (by omega) hl hb
    · rw [if_neg c2, if_neg c2] at hb
      rw [if_neg c2] at hl ⊢
      by_cases c3 : s < 280
      · rw [if_pos c3, if_pos c3] at hb
        rw [if_pos c3] at hl ⊢
        exact sym_seven B t (s - 256) s (by omega) (by omega) hl hb
      · rw [if_neg c3, if_neg c3] at hb
        rw [if_neg c3] at hl ⊢
        exact sym_eight B t (s - 88) s (by omega) (by omega) (by rw [if_neg (by omega)]; omega) hl hb
theorem sym_dist (B : List UInt8) (t s : Nat) (hs : s < 32) (hl : t + 5 ≤ 8 * B.length) (hb : BitsAt B t (codeBits s 5)) : sym fixD B t = .ok (s, t + 5) := by
  obtain ⟨e1, e2, e3, e4, e5, f5⟩ := fixd_beh
  have hb' : ∀ i, i < 5 → bitAt B (t + i) = s / 2 ^ (4 - i) % 2 := fun i hi => by rw [hb i (by rw [codeBits_len]; exact hi), codeBits_get s 5 i hi]
  have b0 := hb' 0 (by decide)
  have b1 := hb' 1 (by decide)
  have b2 := hb' 2 (by decide)
  have b3 := hb' 3 (by decide)
  have b4 := hb' 4 (by decide)
  simp only [Nat.add_zero, Nat.reduceSub, Nat.reducePow, Nat.div_one] at b0 b1 b2 b3 b4
  unfold sym
  rw [sym_skip fixD B 14 1 0 t (s / 16) _ (by omega) b0 (by omega) (by rw [e1]; omega)]
  rw [sym_skip fixD B 13 2 _ (t + 1) (s / 8) _ (by omega) b1 (by omega) (by rw [e2]; omega)]
  rw [sym_skip fixD B 12 3 _ (t + 2) (s / 4) _ (by omega) b2 (by omega) (by rw [e3]; omega)]
  rw [sym_skip fixD B 11 4 _ (t + 3) (s / 2) _ (by omega) b3 (by omega) (by rw [e4]; omega)]
  rw [sym_hit fixD B 10 5 _ (t + 4) s _ s (by omega) b4 (by omega) (by rw [e5, f5]; omega) (by rw [f5, pos5]; simp [List.getD, hs])]

theorem num_bits (B : List UInt8) (t v : Nat) : ∀ n, BitsAt B t (numBits v n) → numAt B n t = v % 2 ^ n
  | 0, _ => by simp [numAt, Nat.mod_one]
  | n + 1, h => by
    have h1 := num_bits B t v n h.left
    have h2 := h n (by rw [numBits_len]; omega)
    rw [numBits_get v (n + 1) n (by omega)] at h2
    rw [numAt, h1, h2, Nat.pow_succ, Nat.mod_mul]
    rw [Nat.mul_comm (v / 2 ^ n % 2)]
theorem span_back (n e : Nat) (he : 0 < e) (he2 : e < 1000) (hn : n < 100000) : spanN (spnV n e) e = widV n e ∧ spanB (spnV n e) e + n % 2 ^ widV n e = n := by
  obtain ⟨w, q, r, h1, h2, h3, h4, h5, h6, h7⟩ := span_parts n e he he2 hn
  rw [h7, ← h1, h3]
  unfold spanN spanB
  by_cases c : w = 0
  · subst c
    simp only [Nat.pow_zero, Nat.mul_one] at h4
    rw [Nat.zero_mul, Nat.zero_add, if_pos h5, if_pos h5]
    have : r = 0 := by rw [← h3]; exact Nat.mod_one n
    omega
  · have hq : e ≤ q := by omega
    obtain ⟨u, rfl⟩ : ∃ u, w = u + 1 := ⟨w - 1, by omega⟩
    have hd : ((u + 1) * e + q) / e = u + 2 ∧ ((u + 1) * e + q) % e = q - e := by
      have : (u + 1) * e + q = (q - e) + e * (u + 2) := by
        rw [show (u + 1) * e = e * (u + 1) from Nat.mul_comm _ _, show u + 2 = u + 1 + 1 by omega, Nat.mul_succ e (u + 1)]; omega
      rw [this, Nat.add_mul_div_left _ _ he, Nat.add_mul_mod_self_left, Nat.div_eq_of_lt (by omega), Nat.mod_eq_of_lt (by omega)]
      omega
    have hl : ¬ (u + 1) * e + q < 2 * e := by
      have : e ≤ (u + 1) * e := Nat.le_mul_of_pos_left _ (by omega)
      omega
    rw [if_neg hl, if_neg hl, hd.1, hd.2, show u + 2 - 1 = u + 1 by omega, show e + (q - e) = q by omega]
    exact ⟨rfl, h4.symm⟩
theorem span_bits (B : List UInt8) (t n e : Nat) (he : 0 < e) (he2 : e < 1000) (hn : n < 100000) (hl : t + widV n e ≤ 8 * B.length) (hb : BitsAt B t (numBits n (widV n e))) : spanV B (spnV n e) e t = .ok (n, t + widV n e) := by
  obtain ⟨h1, h2⟩ := span_back n e he he2 hn
  unfold spanV
  rw [h1, if_pos hl, num_bits B t n _ hb, h2]
theorem again_copy (back : Nat) : ∀ n out, out.length + n ≤ 1048576 → againGo back n out = .ok (copy back n out)
  | 0, out, _ => rfl
  | n + 1, out, h => by
    rw [againGo, put_ok _ (by omega)]
    simp only
    rw [again_copy back n _ (by rw [List.length_append, List.length_singleton]; omega)]
    rfl
theorem lit_step (B : List UInt8) (t : Nat) (v : UInt8) (out : List UInt8) (hl : t + symN v.toNat ≤ 8 * B.length) (hb : BitsAt B t (symBits v.toNat)) (ho : out.length < 1048576) : PStep fixS fixD B t out (out ++ [v]) (t + symN v.toNat) := by
  have hv := v.toNat_lt
  refine .put v.toNat _ _ (sym_fix B t v.toNat (by omega) hl hb) (by omega) ?_
  rw [put_ok _ ho]; simp
theorem lenBits_len (n : Nat) : (lenBits n).length = if n = 258 then 8 else symN (257 + spnV (n - 3) 4) + widV (n - 3) 4 := by
  unfold lenBits
  split
  · exact symBits_len 285
  · rw [List.length_append, symBits_len, numBits_len]
theorem len_step (B : List UInt8) (t n : Nat) (h1 : 3 ≤ n) (h2 : n ≤ 258) (hl : t + (lenBits n).length ≤ 8 * B.length) (hb : BitsAt B t (lenBits n)) : ∃ s t1, sym fixS B t = .ok (s, t1) ∧ 256 < s ∧ s ≤ 285 ∧ lenV B s t1 = .ok (n, t + (lenBits n).length) := by
  rw [lenBits_len] at hl ⊢
  unfold lenBits at hb
  by_cases c : n = 258
  · rw [if_pos c] at hb hl ⊢
    exact ⟨285, t + 8, sym_fix B t 285 (by decide) hl hb, by decide, by decide, by unfold lenV; rw [if_pos rfl, c]⟩
  · rw [if_neg c] at hb hl ⊢
    have h3 := spn_len (n - 3) (by omega)
    have h4 := hb.right
    rw [symBits_len] at h4
    refine ⟨257 + spnV (n - 3) 4, _, sym_fix B t _ (by omega) (by omega) hb.left, by omega, by omega, ?_⟩
    unfold lenV
    rw [if_neg (by omega), show 257 + spnV (n - 3) 4 - 257 = spnV (n - 3) 4 by omega, span_bits B _ (n - 3) 4 (by decide) (by decide) (by omega) (by omega) h4]
    simp only
    rw [show 3 + (n - 3) = n by omega, Nat.add_assoc]
theorem dist_step (B : List UInt8) (t d : Nat) (h1 : 1 ≤ d) (h2 : d ≤ 32768) (hl : t + (distBits d).length ≤ 8 * B.length) (hb : BitsAt B t (distBits d)) : distV fixD B t = .ok (d, t + (distBits d).length) := by
  have hlen : (distBits d).length = 5 + widV (d - 1) 2 := by unfold distBits; rw [List.length_append, codeBits_len, numBits_len]
  rw [hlen] at hl ⊢
  unfold distBits at hb
  have h3 := spn_dist (d - 1) (by omega)
  have h4 := hb.right
  rw [codeBits_len] at h4
  have := dist_of (sym_dist B t _ (by omega) (by omega) hb.left) h3 (span_bits B _ (d - 1) 2 (by decide) (by decide) (by omega) (by omega) h4)
  rw [this, show 1 + (d - 1) = d by omega, Nat.add_assoc]
theorem match_step (B : List UInt8) (t n d : Nat) (out : List UInt8) (h1 : 3 ≤ n) (h2 : n ≤ 258) (h3 : 1 ≤ d) (h4 : d ≤ 32768) (h5 : d ≤ out.length) (ho : out.length + n ≤ 1048576) (hl : t + (lenBits n ++ distBits d).length ≤ 8 * B.length) (hb : BitsAt B t (lenBits n ++ distBits d)) :
    PStep fixS fixD B t out (copy d n out) (t + (lenBits n ++ distBits d).length) := by
  rw [List.length_append] at hl ⊢
  obtain ⟨s, t1, a1, a2, a3, a4⟩ := len_step B t n h1 h2 (by omega) hb.left
  have a5 := dist_step B _ d h3 h4 (by omega) hb.right
  rw [← Nat.add_assoc]
  refine .again s t1 n _ d _ _ a1 a2 a3 a4 a5 ?_
  unfold againV
  rw [if_neg (by omega), again_copy d n out ho]

theorem press_toks (b B : List UInt8) (hs : b.length ≤ 1048576) : ∀ f i g t, b.length ≤ f + i → i ≤ b.length → BitsAt B t (toksBits (toks b f i) ++ symBits 256) → t + (toksBits (toks b f i) ++ symBits 256).length ≤ 8 * B.length → (toks b f i).length < g →
    pressGo fixS fixD B g t (b.take i) = .ok (b, t + (toksBits (toks b f i) ++ symBits 256).length)
  | 0, i, g, t, hf, hi, hb, hl, hg => by
    obtain rfl : i = b.length := by omega
    obtain ⟨g, rfl⟩ : ∃ x, g = x + 1 := ⟨g - 1, by omega⟩
    have h := sym_fix B t 256 (by decide) hl hb
    rw [pressGo, h]
    simp only
    rw [if_neg (by decide), if_pos trivial, List.take_length]
    rfl
  | f + 1, i, g, t, hf, hi, hb, hl, hg => by
    obtain ⟨g, rfl⟩ : ∃ x, g = x + 1 := ⟨g - 1, by omega⟩
    by_cases c : i < b.length
    · by_cases e : (long b i).1 = 0
      · rw [toks, if_pos c, if_pos e, toksBits, List.append_assoc] at hb hl ⊢
        rw [toks, if_pos c, if_pos e, List.length_cons] at hg
        have hlen : (tokBits ⟨at' b i, 0, 0⟩).length = symN (at' b i).toNat := symBits_len _
        rw [List.length_append] at hl ⊢
        have hst := lit_step B t (at' b i) (b.take i) (by omega) hb.left (by rw [List.length_take]; omega)
        rw [hst.go g]
        have e2 : b.take i ++ [at' b i] = b.take (i + 1) := by rw [← at_getElem b i c]; exact (List.take_succ_eq_append_getElem c).symm
        have hr := hb.right
        rw [hlen] at hr hl ⊢
        have z := press_toks b B hs f (i + 1) g (t + symN (at' b i).toNat) (by omega) (by omega) hr (by omega) (by omega)
        rw [e2, z, Nat.add_assoc]
      · obtain ⟨a1, a2, a3, a4, a5, a6, a7⟩ := (long_best b i).some e
        have hM := M_le b i (i - (long b i).2)
        have ht := top_le b i
        have hd0 : 1 ≤ (long b i).2 := by omega
        rw [toks, if_pos c, if_neg e, toksBits, List.append_assoc] at hb hl ⊢
        rw [toks, if_pos c, if_neg e, List.length_cons] at hg
        have ht' : tokBits ⟨0, ((long b i).1 : Int), ((long b i).2 : Int)⟩ = lenBits (long b i).1 ++ distBits (long b i).2 := by
          unfold tokBits
          simp only
          rw [if_neg (by omega)]
          rfl
        rw [ht'] at hb hl ⊢
        rw [List.length_append] at hl ⊢
        have hlt : (b.take i).length = i := by rw [List.length_take]; omega
        have hst := match_step B t (long b i).1 (long b i).2 (b.take i) a1 (by omega) hd0 a5 (by omega) (by omega) (by omega) hb.left
        rw [hst.go g]
        have z := copy_take b i (long b i).2 hd0 a2 (long b i).1 0 (by omega) (fun t ht => by
            rw [Nat.zero_add] at ht
            exact mat_eq b i (i - (long b i).2) (top b i) t (by unfold M at a6; omega))
        rw [Nat.add_zero] at z
        rw [z]
        have y := press_toks b B hs f (i + (long b i).1) g _ (by omega) (by omega) hb.right (by omega) (by omega)
        rw [y, Nat.add_assoc]
    · obtain rfl : i = b.length := by omega
      rw [toks_end b _ _ (Nat.le_refl _)] at hb hl ⊢
      have h := sym_fix B t 256 (by decide) hl hb
      rw [pressGo, h]
      simp only
      rw [if_neg (by decide), if_pos trivial, List.take_length]
      rfl

theorem raw_pressed (b : List UInt8) (h : b.length ≤ 1048576) : rawV (pressV (tokens b)) = .ok (b, (pressV (tokens b)).length) := by
  have hbin := pressBits_bin (tokens b)
  have hlen : (pressV (tokens b)).length = ((pressBits (tokens b)).length + 7) / 8 := pkL_len _
  have hall : BitsAt (pressV (tokens b)) 0 (pressBits (tokens b)) := fun i hi => by rw [Nat.zero_add]; exact pkL_bit hbin i hi
  have hpl : (pressBits (tokens b)).length = 3 + (toksBits (tokens b) ++ symBits 256).length := by unfold pressBits; simp; omega
  have hshape : pressBits (tokens b) = [1, 1, 0] ++ (toksBits (tokens b) ++ symBits 256) := by unfold pressBits; rw [List.append_assoc]
  rw [hshape] at hall
  have h0 := hall.left 0 (by decide)
  have h1 := hall.left 1 (by decide)
  have h2 := hall.left 2 (by decide)
  have h3 := hall.right
  have hsz : (symBits 256).length = 7 := symBits_len 256
  have htl : (tokens b).length ≤ b.length := tokens_len b
  obtain ⟨B, hB⟩ : ∃ B, B = pressV (tokens b) := ⟨_, rfl⟩
  rw [← hB] at h0 h1 h2 h3 hlen ⊢
  rw [List.length_append, hsz] at hpl
  have hgo : ∀ (f i : Nat), (toks b f i).length ≤ (toksBits (toks b f i)).length := by
    intro f i
    generalize toks b f i = l
    induction l with
    | nil => exact Nat.le_refl _
    | cons t r ih =>
      rw [toksBits, List.length_append, List.length_cons]
      have : 1 ≤ (tokBits t).length := by
        unfold tokBits
        split
        · rw [symBits_len]; unfold symN; split <;> (try split) <;> (try split) <;> omega
        · rw [List.length_append, lenBits_len]; unfold symN; split <;> (try split) <;> (try split) <;> (try split) <;> omega
      omega
  have hp := press_toks b B h b.length 0 (8 * B.length + 1) 3 (by omega) (by omega) h3 (by
    show 3 + (toksBits (tokens b) ++ symBits 256).length ≤ _
    rw [List.length_append, hsz]; omega) (by
    have := hgo b.length 0
    have e : toks b b.length 0 = tokens b := rfl
    rw [e] at this ⊢
    omega)
  have e : toks b b.length 0 = tokens b := rfl
  rw [e, List.take_zero, List.length_append, hsz] at hp
  have hk : numAt B 2 1 = 1 := by
    simp only [Nat.zero_add] at h1 h2
    simp [numAt, h1, h2]
  have hv : blockV B 0 [] = .ok (true, b, 3 + ((toksBits (tokens b)).length + 7)) := by
    simp only [Nat.zero_add] at h0
    unfold blockV
    rw [if_pos (by omega), show 0 + 1 = 1 by omega, hk, h0]
    unfold kindV
    rw [if_neg (by decide), if_pos rfl, show 0 + 3 = 3 by omega, hp]
    rfl
  unfold rawV
  rw [raw_last hv]
  congr 2; omega

theorem raw_stored (b : List UInt8) (h : b.length ≤ 65535) : rawV (stoV b) = .ok (b, (stoV b).length) := by
  have e : stoV b = blkV 1 b := stoGo_last _ h
  have hl : (stoV b).length = b.length + 5 := by rw [e]; simp [blkV]
  have g0 : ((stoV b).getD 0 0).toNat = 1 := by rw [e]; rfl
  have g1 : ((stoV b).getD 1 0).toNat = b.length % 256 := by rw [e]; simp [blkV, List.getD, Nat.mod_mod]
  have g2 : ((stoV b).getD 2 0).toNat = b.length / 256 := by rw [e]; simp [blkV, List.getD]; omega
  have g3 : ((stoV b).getD 3 0).toNat = 255 - b.length % 256 := by rw [e]; simp [blkV, List.getD]; omega
  have g4 : ((stoV b).getD 4 0).toNat = 255 - b.length / 256 := by rw [e]; simp [blkV, List.getD]; omega
  have gd : (stoV b).drop 5 = b := by rw [e]; rfl
  obtain ⟨B, hB⟩ : ∃ B, B = stoV b := ⟨_, rfl⟩
  rw [← hB] at hl g0 g1 g2 g3 g4 gd ⊢
  have hst : storedV B 3 [] = .ok (b, 8 * B.length) := by
    unfold storedV
    rw [show up8 3 = 8 * 1 by decide, if_pos (by omega), num16, show 8 * 1 + 16 = 8 * 3 by decide, num16, if_pos (by rw [show 1 + 1 = 2 by decide, show 3 + 1 = 4 by decide, g1, g2, g3, g4]; omega), show 8 * 1 + 32 = 8 * 5 by decide]
    rw [show (B.getD 1 0).toNat + 256 * (B.getD (1 + 1) 0).toNat = b.length by rw [g1, show 1 + 1 = 2 by decide, g2]; omega]
    rw [storedGo_full B b.length 5 [] (by omega) (by simp; omega), gd, List.nil_append, List.take_length, show 5 + b.length = B.length by omega]
  have hv : blockV B 0 [] = .ok (true, b, 8 * B.length) := by
    unfold blockV
    have b0 := bitAt_byte B 0 0 (by decide)
    rw [g0] at b0
    simp only [Nat.mul_zero, Nat.add_zero] at b0
    have k := num2 B 0
    rw [g0] at k
    simp only [Nat.mul_zero, Nat.zero_add] at k
    rw [if_pos (by omega), show 0 + 1 = 1 by decide, k, b0]
    unfold kindV
    rw [if_pos (by decide), show 0 + 3 = 3 by decide, hst]
    rfl
  unfold rawV
  rw [raw_last hv]
  congr 2; omega

theorem sum_back (n : Nat) (h : n < 4294967296) : sumV (sumB n) = n := by
  unfold sumV sumB
  simp only [List.take, List.foldl, UInt8.toNat_ofNat']
  omega
theorem adler_lt (l : List UInt8) : adler l < 4294967296 := by
  have := adlerGo_lt l 1 0 (by decide) (by decide)
  unfold adler; omega
theorem zlib_around (r o : List UInt8) (h : rawV r = .ok (o, r.length)) : zlibV ([120, 1] ++ r ++ sumB (adler o)) = .ok (o, ([120, 1] ++ r ++ sumB (adler o)).length) := by
  have hl : ([120, 1] ++ r ++ sumB (adler o)).length = r.length + 6 := by simp [sumB]
  have hd : ([120, 1] ++ r ++ sumB (adler o)).drop 2 = r ++ sumB (adler o) := rfl
  rw [hl]
  refine zlib_of (by omega) (by kernel_rfl) ?_ (by omega) ?_
  · rw [hd]
    refine Ag.raw (m := r.length) ⟨Nat.le_refl _, by simp, fun i hi => (getD_app _ _ _ hi).symm⟩ h (Nat.le_refl _)
  · rw [hd, List.drop_left]
    exact sum_back _ (adler_lt _)

end Go.Proofs.YtpplboihlndfpaaDoor.Dx
