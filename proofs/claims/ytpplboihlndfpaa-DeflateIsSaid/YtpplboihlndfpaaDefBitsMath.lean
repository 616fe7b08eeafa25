/-
  Tokens as bits, bits as bytes; bytes in blocks. Nothing of the program is named here.
-/
import Derived.Test.YtpplboihlndfpaaDefMath
import Derived.Test.YtpplboihlndfpaaInfPackMath
namespace Go.Proofs.Ytpplboihlndfpaa.Dx
open Ix
set_option linter.unusedSimpArgs false
set_option linter.unusedVariables false

/-- So many lowest bits of a number, the lowest one first. -/
def numBits (v : Nat) : Nat → List Nat
  | 0 => []
  | n + 1 => numBits v n ++ [v / 2 ^ n % 2]
/-- A code of n bits, its highest one first: the first i of them. -/
def codeTo (v n : Nat) : Nat → List Nat
  | 0 => []
  | i + 1 => codeTo v n i ++ [v / 2 ^ (n - 1 - i) % 2]
def codeBits (v n : Nat) : List Nat := codeTo v n n
theorem numBits_len (v : Nat) : ∀ n, (numBits v n).length = n
  | 0 => rfl
  | n + 1 => by rw [numBits, List.length_append, numBits_len v n]; rfl
theorem codeTo_len (v n : Nat) : ∀ i, (codeTo v n i).length = i
  | 0 => rfl
  | i + 1 => by rw [codeTo, List.length_append, codeTo_len v n i]; rfl
theorem codeBits_len (v n : Nat) : (codeBits v n).length = n := codeTo_len v n n
theorem numBits_get (v : Nat) : ∀ n i, i < n → (numBits v n).getD i 0 = v / 2 ^ i % 2
  | 0, i, h => by omega
  | n + 1, i, h => by
    rw [numBits]
    by_cases e : i = n
    · subst e; simp [List.getD, List.getElem?_append_right, numBits_len]
    · have := numBits_get v n i (by omega)
      simp only [List.getD] at this ⊢
      rw [List.getElem?_append_left (by rw [numBits_len]; omega)]; exact this
theorem codeTo_get (v n : Nat) : ∀ k i, i < k → (codeTo v n k).getD i 0 = v / 2 ^ (n - 1 - i) % 2
  | 0, i, h => by omega
  | k + 1, i, h => by
    rw [codeTo]
    by_cases e : i = k
    · subst e; simp [List.getD, List.getElem?_append_right, codeTo_len]
    · have := codeTo_get v n k i (by omega)
      simp only [List.getD] at this ⊢
      rw [List.getElem?_append_left (by rw [codeTo_len]; omega)]; exact this
theorem codeBits_get (v n i : Nat) (h : i < n) : (codeBits v n).getD i 0 = v / 2 ^ (n - 1 - i) % 2 := codeTo_get v n n i h

/-- The code of a byte, of a length, of the end; and how long it is. -/
def symC (s : Nat) : Nat := if s < 144 then 48 + s else if s < 256 then 256 + s else if s < 280 then s - 256 else s - 88
def symN (s : Nat) : Nat := if s < 144 then 8 else if s < 256 then 9 else if s < 280 then 7 else 8
def symBits (s : Nat) : List Nat := codeBits (symC s) (symN s)
/-- In which span a number is, and how many of its lowest bits tell which one of it. -/
def widV (n e : Nat) : Nat := Nat.log2 (n / e)
def spnV (n e : Nat) : Nat := widV n e * e + n / 2 ^ widV n e
def lenBits (n : Nat) : List Nat := if n = 258 then symBits 285 else symBits (257 + spnV (n - 3) 4) ++ numBits (n - 3) (widV (n - 3) 4)
def distBits (d : Nat) : List Nat := codeBits (spnV (d - 1) 2) 5 ++ numBits (d - 1) (widV (d - 1) 2)
def tokBits (t : Tok) : List Nat := if t.len = 0 then symBits t.lit.toNat else lenBits t.len.toNat ++ distBits t.dist.toNat
def toksBits : List Tok → List Nat
  | [] => []
  | t :: r => tokBits t ++ toksBits r
theorem toksBits_app : ∀ l m, toksBits (l ++ m) = toksBits l ++ toksBits m
  | [], m => rfl
  | t :: r, m => by rw [List.cons_append, toksBits, toksBits_app r m, toksBits, List.append_assoc]
def pressBits (l : List Tok) : List Nat := [1, 1, 0] ++ toksBits l ++ symBits 256

/-- Bits in bytes. -/
def bitF' (bs : List Nat) (t : Nat) : Nat := bs.getD t 0
def pkL (bs : List Nat) : List UInt8 := pk (bitF' bs) bs.length
def Bin (bs : List Nat) : Prop := ∀ x ∈ bs, x < 2
theorem Bin.lt {bs : List Nat} (h : Bin bs) (t : Nat) : bitF' bs t < 2 := by
  unfold bitF'
  by_cases c : t < bs.length
  · simp only [List.getD, List.getElem?_eq_getElem c, Option.getD_some]
    exact h _ (List.getElem_mem c)
  · simp [List.getD, List.getElem?_eq_none (Nat.not_lt.1 c)]
theorem Bin.app {a b : List Nat} (h : Bin a) (k : Bin b) : Bin (a ++ b) := fun x hx => by
  rcases List.mem_append.1 hx with m | m
  · exact h x m
  · exact k x m
theorem numBits_bin (v : Nat) : ∀ n, Bin (numBits v n)
  | 0 => fun x hx => by cases hx
  | n + 1 => (numBits_bin v n).app (fun x hx => by rw [List.mem_singleton.1 hx]; exact Nat.mod_lt _ (by decide))
theorem codeTo_bin (v n : Nat) : ∀ i, Bin (codeTo v n i)
  | 0 => fun x hx => by cases hx
  | i + 1 => (codeTo_bin v n i).app (fun x hx => by rw [List.mem_singleton.1 hx]; exact Nat.mod_lt _ (by decide))
theorem lenBits_bin (n : Nat) : Bin (lenBits n) := by
  unfold lenBits
  split
  · exact codeTo_bin _ _ _
  · exact (codeTo_bin _ _ _).app (numBits_bin _ _)
theorem tokBits_bin (t : Tok) : Bin (tokBits t) := by
  unfold tokBits
  split
  · exact codeTo_bin _ _ _
  · exact (lenBits_bin _).app ((codeTo_bin _ _ _).app (numBits_bin _ _))
theorem toksBits_bin : ∀ l, Bin (toksBits l)
  | [] => fun x hx => by cases hx
  | t :: r => (tokBits_bin t).app (toksBits_bin r)
theorem pressBits_bin (l : List Tok) : Bin (pressBits l) := by
  refine (Bin.app ?_ (toksBits_bin l)).app (codeTo_bin _ _ _)
  intro x hx
  rcases List.mem_cons.1 hx with rfl | hx
  · decide
  · rcases List.mem_cons.1 hx with rfl | hx
    · decide
    · rw [List.mem_singleton.1 hx]; decide
theorem numB_congr {f g : Nat → Nat} (t : Nat) : ∀ n, (∀ i, i < n → f (t + i) = g (t + i)) → numB f n t = numB g n t
  | 0, _ => rfl
  | n + 1, h => by rw [numB, numB, numB_congr t n (fun i hi => h i (by omega)), h n (by omega)]
theorem pk_congr {f g : Nat → Nat} {n : Nat} (h : ∀ i, i < n → f i = g i) : pk f n = pk g n := by
  unfold pk
  apply List.map_congr_left
  intro m hm
  rw [numB_congr (8 * m) _ (fun i hi => h _ (by omega))]
theorem pkL_len (bs : List Nat) : (pkL bs).length = (bs.length + 7) / 8 := pk_len _ _
/-- Ahead of one bit more: its byte is there. -/
def pkO (bs : List Nat) : List UInt8 := if bs.length % 8 = 0 then pkL bs ++ [0] else pkL bs
theorem pkO_len (bs : List Nat) : (pkO bs).length = bs.length / 8 + 1 := by
  have := pkA_len (bitF' bs) bs.length
  exact this
/-- What lies there ahead of a bit, and behind it. -/
theorem pkL_put {bs : List Nat} (h : Bin bs) (x : Nat) (hx : x < 2) :
    ((pkO bs).getD (bs.length / 8) 0).toNat < 2 ^ (bs.length % 8) ∧ (pkO bs).set (bs.length / 8) (UInt8.ofNat (((pkO bs).getD (bs.length / 8) 0).toNat + x * 2 ^ (bs.length % 8))) = pkL (bs ++ [x]) := by
  have h2 : Bin (bs ++ [x]) := h.app (fun y hy => by rw [List.mem_singleton.1 hy]; exact hx)
  have hb : ∀ i, i < bs.length → bitF' bs i = bitF' (bs ++ [x]) i := fun i hi => by
    unfold bitF'; simp [List.getD, List.getElem?_append_left hi]
  have e1 : pkL bs = pk (bitF' (bs ++ [x])) bs.length := pk_congr hb
  have e2 : pkO bs = pkA (bitF' (bs ++ [x])) bs.length := by unfold pkO pkA; rw [e1]
  have e3 : bitF' (bs ++ [x]) bs.length = x := by unfold bitF'; simp [List.getD]
  have a := pkA_at (bitF' (bs ++ [x])) h2.lt bs.length
  have s := pk_step (bitF' (bs ++ [x])) h2.lt bs.length
  rw [e2, a]
  refine ⟨numB_lt _ h2.lt _ _, ?_⟩
  rw [e3] at s
  rw [s]
  unfold pkL
  rw [List.length_append]
  rfl
theorem pkL_bit {bs : List Nat} (h : Bin bs) (t : Nat) (ht : t < bs.length) : bitAt (pkL bs) t = bs.getD t 0 := pk_bit _ h.lt _ _ ht

def pressV (l : List Tok) : List UInt8 := pkL (pressBits l)
def blkV (first : Nat) (b : List UInt8) : List UInt8 := [UInt8.ofNat first, UInt8.ofNat (b.length % 256), UInt8.ofNat (b.length / 256), UInt8.ofNat (255 - b.length % 256), UInt8.ofNat (255 - b.length / 256)] ++ b
/-- Bytes as blocks in which they stand as they are. -/
def stoGo : Nat → List UInt8 → List UInt8
  | 0, b => blkV 1 b
  | f + 1, b => if 65535 < b.length then blkV 0 (b.take 65535) ++ stoGo f (b.drop 65535) else blkV 1 b
def stoV (b : List UInt8) : List UInt8 := stoGo b.length b
theorem stoGo_last (f : Nat) {b : List UInt8} (h : b.length ≤ 65535) : stoGo f b = blkV 1 b := by
  cases f with
  | zero => rfl
  | succ f => rw [stoGo, if_neg (by omega)]
theorem stoGo_more {f : Nat} {b : List UInt8} (h : 65535 < b.length) (hf : b.length ≤ f) : ∃ g, b.length - 65535 ≤ g ∧ stoGo f b = blkV 0 (b.take 65535) ++ stoGo g (b.drop 65535) := by
  obtain ⟨g, rfl⟩ : ∃ g, f = g + 1 := ⟨f - 1, by omega⟩
  exact ⟨g, by omega, by rw [stoGo, if_pos h]⟩
def rawZ (b : List UInt8) (kind : Int) : Except Int (List UInt8) :=
  if kind ≠ 0 ∧ kind ≠ 1 then .error 1 else if 1048576 < b.length then .error 6 else if kind = 0 then .ok (stoV b) else .ok (pressV (tokens b))
def sumB (n : Nat) : List UInt8 := [UInt8.ofNat (n / 16777216), UInt8.ofNat (n / 65536 % 256), UInt8.ofNat (n / 256 % 256), UInt8.ofNat (n % 256)]
def zlibZ (b : List UInt8) (kind : Int) : Except Int (List UInt8) := match rawZ b kind with
  | .error e => .error e
  | .ok r => .ok ([120, 1] ++ r ++ sumB (adler b))

/-- Parts of a number in its span. -/
theorem span_parts (n e : Nat) (he : 0 < e) (he2 : e < 1000) (hn : n < 100000) : ∃ w q r, w = widV n e ∧ n / 2 ^ w = q ∧ n % 2 ^ w = r ∧ n = q * 2 ^ w + r ∧ q < 2 * e ∧ (w = 0 ∨ e ≤ q) ∧ spnV n e = w * e + q := by
  refine ⟨widV n e, n / 2 ^ widV n e, n % 2 ^ widV n e, rfl, rfl, rfl, ?_, ?_, ?_, rfl⟩
  · have := Nat.div_add_mod n (2 ^ widV n e)
    rw [Nat.mul_comm] at this; omega
  · have h : n / e < 2 ^ (widV n e + 1) := Nat.lt_log2_self
    rw [Nat.div_lt_iff_lt_mul (Nat.two_pow_pos _)]
    rw [Nat.div_lt_iff_lt_mul he, Nat.pow_succ] at h
    have : 2 ^ widV n e * 2 * e = 2 * e * 2 ^ widV n e := by rw [Nat.mul_assoc, Nat.mul_comm]
    omega
  · by_cases h0 : n / e = 0
    · left; unfold widV; rw [h0]; rfl
    · right
      have h : 2 ^ widV n e ≤ n / e := Nat.log2_self_le h0
      rw [Nat.le_div_iff_mul_le he] at h
      rw [Nat.le_div_iff_mul_le (Nat.two_pow_pos _), Nat.mul_comm]; exact h
theorem spn_len (n : Nat) (h : n ≤ 254) : spnV n 4 ≤ 27 := by
  have key : (List.range 255).all (fun n => decide (spnV n 4 ≤ 27)) = true := by kernel_rfl
  exact of_decide_eq_true (List.all_eq_true.1 key n (List.mem_range.2 (by omega)))
theorem wid_len (n : Nat) (h : n ≤ 255) : widV n 4 ≤ 5 := by
  have key : (List.range 256).all (fun n => decide (widV n 4 ≤ 5)) = true := by kernel_rfl
  exact of_decide_eq_true (List.all_eq_true.1 key n (List.mem_range.2 (by omega)))
theorem wid_dist (n : Nat) (h : n ≤ 32767) : widV n 2 ≤ 13 := by
  unfold widV
  by_cases h0 : n / 2 = 0
  · rw [h0]; decide
  · have := (Nat.log2_lt h0 (k := 14)).2 (by omega)
    omega
theorem spn_dist (n : Nat) (h : n ≤ 32767) : spnV n 2 ≤ 29 := by
  obtain ⟨w, q, r, h1, h2, h3, h4, h5, h6, h7⟩ := span_parts n 2 (by decide) (by decide) (by omega)
  have := wid_dist n h
  omega

/-- The document's examples. -/
theorem tokens_example : tokens [97, 97, 97, 97] = [⟨97, 0, 0⟩, ⟨0, 3, 1⟩] := by kernel_rfl
theorem zlib_example : zlibZ [97] 1 = .ok [120, 1, 75, 4, 0, 0, 98, 0, 98] := by kernel_rfl

end Go.Proofs.Ytpplboihlndfpaa.Dx
