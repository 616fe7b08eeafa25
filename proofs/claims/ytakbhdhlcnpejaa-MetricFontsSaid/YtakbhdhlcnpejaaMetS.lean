/-
  Package metric's texts as functions on lists: characters of a text, the text of characters, pairs of bytes; that what is written is read as it was. Nothing of the program is named here.
  A font's widths: one byte's, and a text's.
  The fonts that all know.
  Which font an object is: the answers over lists.
  Numbers of a call's own, and what is laid behind them.
  Standard once more: its widths lie in a block of its own. So of the document's.
  The document's fonts that all know.
  The document's Same of equal fonts; the law's font as the document's.
-/
import Derived.Lib.TrimUEq
import Derived.Lib.QuoteLoop
import Derived.Lib.RuneBytes
import Derived.KernelRfl
import Derived.Test.YtakbhdhlcnpejaaXBase
import Derived.Test.YtakbhdhlcnpejaaFixOps
import Derived.Deep.LoopGhost
import Derived.Deep.RegionHeld3
import Derived.Deep.RegionLaw
import Derived.Deep.WholeRow
import Derived.Deep.Cut
import Derived.Deep.MidRow
import Derived.Laws.Rows
import Derived.Test.YtakbhdhlcnpejaaMathS
import Derived.Laws.AppendOwn
import Derived.Laws.OwnMore
import Derived.Lib.OthersKept
import Derived.Deep.AppendLies
import Derived.Sort.Grow
import Derived.Great.BuildSlice
import Derived.BigGuard
namespace Go.Proofs.Ytakbhdhlcnpejaa.Mt
open Go.Lib (decodeL decodeN encodeRune encodeRuneZ)

theorem u8_lit (n : Nat) (h : n < 256) : (n.toUInt8).toNat = n := by
  simp; omega
theorem u8_ext {a b : UInt8} (h : a.toNat = b.toNat) : a = b := UInt8.toNat_inj.1 h

/-- A list, taken apart step by step: what stands at its head, and how long that is. -/
def unfGo (f : List UInt8 → Nat × Nat) : Nat → List UInt8 → List Nat
  | 0, _ => []
  | n + 1, l => if l = [] then [] else (f l).1 :: unfGo f n (l.drop (f l).2)
def unf (f : List UInt8 → Nat × Nat) (l : List UInt8) : List Nat := unfGo f l.length l

theorem unfGo_fuel (f : List UInt8 → Nat × Nat) (hf : ∀ l, l ≠ [] → 1 ≤ (f l).2) : ∀ (n m : Nat) (l : List UInt8), l.length ≤ n → l.length ≤ m → unfGo f n l = unfGo f m l
  | 0, 0, _, _, _ => rfl
  | 0, m + 1, l, h, _ => by
    have : l = [] := List.length_eq_zero_iff.1 (by omega)
    simp [unfGo, this]
  | n + 1, 0, l, _, h => by
    have : l = [] := List.length_eq_zero_iff.1 (by omega)
    simp [unfGo, this]
  | n + 1, m + 1, l, hn, hm => by
    by_cases he : l = []
    · simp [unfGo, he]
    · have h1 := hf l he
      have hl : 0 < l.length := List.length_pos_iff.2 he
      simp only [unfGo, if_neg he]
      rw [unfGo_fuel f hf n m (l.drop (f l).2) (by rw [List.length_drop]; omega) (by rw [List.length_drop]; omega)]

theorem unf_nil (f : List UInt8 → Nat × Nat) : unf f [] = [] := rfl
theorem unf_cons (f : List UInt8 → Nat × Nat) (hf : ∀ l, l ≠ [] → 1 ≤ (f l).2) (l : List UInt8) (h : l ≠ []) : unf f l = (f l).1 :: unf f (l.drop (f l).2) := by
  have h1 := hf l h
  have hl : 0 < l.length := List.length_pos_iff.2 h
  unfold unf
  obtain ⟨n, hn⟩ : ∃ n, l.length = n + 1 := ⟨l.length - 1, by omega⟩
  rw [hn]
  simp only [unfGo, if_neg h]
  rw [unfGo_fuel f hf n _ (l.drop (f l).2) (by rw [List.length_drop]; omega) (Nat.le_refl _)]
theorem unf_len (f : List UInt8 → Nat × Nat) : ∀ (n : Nat) (l : List UInt8), (unfGo f n l).length ≤ n
  | 0, _ => Nat.le_refl _
  | n + 1, l => by
    have := unf_len f n (l.drop (f l).2)
    unfold unfGo; split <;> simp; omega
theorem unf_length (f : List UInt8 → Nat × Nat) (l : List UInt8) : (unf f l).length ≤ l.length := unf_len f _ l

/-! ### characters -/
def okR (r : Nat) : Prop := r < 55296 ∨ (57343 < r ∧ r ≤ 1114111)
theorem okR_err : okR 65533 := by unfold okR; omega

theorem decodeL_pos (l : List UInt8) (_ : l ≠ []) : 1 ≤ (decodeL l).2 := by
  rw [Lib.decodeL_N]; exact Lib.decodeN_ge1 _ _ _ _ _
theorem decodeL_ok (l : List UInt8) : okR (decodeL l).1 := by
  rw [Lib.decodeL_N]; exact Lib.decodeN_valid _ _ _ _ _ (UInt8.toNat_lt _)
theorem decodeL_le (l : List UInt8) (h : l ≠ []) : (decodeL l).2 ≤ l.length := by
  rw [Lib.decodeL_N]; exact Lib.decodeN_width_le _ _ _ _ _ (List.length_pos_iff.2 h)

/-- The characters of a text. -/
def runes (l : List UInt8) : List Nat := unf decodeL l
theorem runes_nil : runes [] = [] := rfl
theorem runes_cons (l : List UInt8) (h : l ≠ []) : runes l = (decodeL l).1 :: runes (l.drop (decodeL l).2) := unf_cons _ decodeL_pos l h

theorem unfGo_all (f : List UInt8 → Nat × Nat) (p : Nat → Prop) (hp : ∀ l, l ≠ [] → p (f l).1) : ∀ (n : Nat) (l : List UInt8), ∀ r ∈ unfGo f n l, p r
  | 0, _, r, h => by simp [unfGo] at h
  | n + 1, l, r, h => by
    unfold unfGo at h
    split at h
    · simp at h
    · rename_i he
      rcases List.mem_cons.1 h with rfl | h
      · exact hp l he
      · exact unfGo_all f p hp n _ r h
theorem runes_ok (l : List UInt8) : ∀ r ∈ runes l, okR r := unfGo_all _ okR (fun l _ => decodeL_ok l) _ l
theorem runes_len (l : List UInt8) : (runes l).length ≤ l.length := unf_length _ l

/-- The text of characters. -/
def enc : List Nat → List UInt8
  | [] => []
  | r :: l => encodeRune (r : Int) ++ enc l
theorem enc_append : ∀ a b : List Nat, enc (a ++ b) = enc a ++ enc b
  | [], _ => rfl
  | r :: a, b => by simp [enc, enc_append a b]
theorem encR_len (r : Int) : 1 ≤ (encodeRune r).length ∧ (encodeRune r).length ≤ 4 := by
  have := Lib.encodeRuneZ_length r
  simpa [encodeRune] using this
theorem enc_len : ∀ a : List Nat, a.length ≤ (enc a).length ∧ (enc a).length ≤ 4 * a.length
  | [] => ⟨Nat.le_refl _, Nat.le_refl _⟩
  | r :: a => by
    have := enc_len a
    have := encR_len (r : Int)
    simp [enc]; omega

set_option maxRecDepth 100000 in
set_option maxHeartbeats 4000000 in
theorem decode_enc (r : Nat) (h : okR r) (t : List UInt8) : decodeL (encodeRune (r : Int) ++ t) = (r, (encodeRune (r : Int)).length) := by
  unfold okR at h
  by_cases h1 : r ≤ 127
  · have e : encodeRune (r : Int) = [r.toUInt8] := by simp [encodeRune, Lib.encodeRuneZ_one (r := (r : Int)) (by omega) (by omega)]
    rw [e, Lib.decodeL_N]
    simp only [List.cons_append, List.nil_append, List.getD_cons_zero, List.length_cons, List.length_nil]
    rw [u8_lit r (by omega), Lib.decodeN_ascii _ _ _ _ _ (by omega)]
  by_cases h2 : r ≤ 2047
  · have e : encodeRune (r : Int) = [(192 + r / 64).toUInt8, (128 + r % 64).toUInt8] := by
      simp only [encodeRune, Lib.encodeRuneZ_two (r := (r : Int)) (by omega) (by omega), List.map_cons, List.map_nil]
      rfl
    rw [e, Lib.decodeL_N]
    simp only [List.cons_append, List.nil_append, List.getD_cons_zero, List.getD_cons_succ, List.length_cons, List.length_nil]
    rw [u8_lit _ (by omega), u8_lit _ (by omega)]
    unfold decodeN
    repeat' split
    all_goals first | (exfalso; omega) | (apply Prod.ext <;> simp only <;> omega)
  by_cases h3 : r ≤ 65535
  · have e : encodeRune (r : Int) = [(224 + r / 4096).toUInt8, (128 + r / 64 % 64).toUInt8, (128 + r % 64).toUInt8] := by
      simp only [encodeRune, Lib.encodeRuneZ_three (r := (r : Int)) (by omega), List.map_cons, List.map_nil]
      rfl
    rw [e, Lib.decodeL_N]
    simp only [List.cons_append, List.nil_append, List.getD_cons_zero, List.getD_cons_succ, List.length_cons, List.length_nil]
    rw [u8_lit _ (by omega), u8_lit _ (by omega), u8_lit _ (by omega)]
    unfold decodeN
    repeat' split
    all_goals first | (exfalso; omega) | (apply Prod.ext <;> simp only <;> omega)
  · have e : encodeRune (r : Int) = [(240 + r / 262144).toUInt8, (128 + r / 4096 % 64).toUInt8, (128 + r / 64 % 64).toUInt8, (128 + r % 64).toUInt8] := by
      simp only [encodeRune, Lib.encodeRuneZ_four (r := (r : Int)) (by omega) (by omega), List.map_cons, List.map_nil]
      rfl
    rw [e, Lib.decodeL_N]
    simp only [List.cons_append, List.nil_append, List.getD_cons_zero, List.getD_cons_succ, List.length_cons, List.length_nil]
    rw [u8_lit _ (by omega), u8_lit _ (by omega), u8_lit _ (by omega), u8_lit _ (by omega)]
    unfold decodeN
    repeat' split
    all_goals first | (exfalso; omega) | (apply Prod.ext <;> simp only <;> omega)

theorem encR_ne (r : Int) (t : List UInt8) : encodeRune r ++ t ≠ [] := by
  have h1 := (encR_len r).1
  intro h
  have h2 := congrArg List.length h
  rw [List.length_append, List.length_nil] at h2; omega
theorem runes_enc : ∀ l : List Nat, (∀ r ∈ l, okR r) → runes (enc l) = l
  | [], _ => rfl
  | r :: l, h => by
    have h0 := h r List.mem_cons_self
    have d := decode_enc r h0 (enc l)
    show runes (encodeRune (r : Int) ++ enc l) = _
    rw [runes_cons _ (encR_ne _ _), d, List.drop_left, runes_enc l fun x hx => h x (List.mem_cons_of_mem _ hx)]

/-! ### bytes that stand alone -/
def alone (r : Nat) : Bool := r == 9 || r == 10 || r == 13 || (decide (32 ≤ r) && decide (r ≤ 126)) || (decide (161 ≤ r) && decide (r ≤ 255) && r != 173)
theorem alone_lt {r : Nat} (h : alone r = true) : r < 256 := by
  unfold alone at h
  simp at h; omega
def asBytes (l : List Nat) : List UInt8 := l.map fun r => r.toUInt8
theorem asBytes_back : ∀ l : List Nat, (∀ r ∈ l, r < 256) → (asBytes l).map (fun b : UInt8 => b.toNat) = l
  | [], _ => rfl
  | r :: l, h => by
    simp only [asBytes, List.map_cons, List.cons.injEq]
    exact ⟨u8_lit r (h r List.mem_cons_self), asBytes_back l fun x hx => h x (List.mem_cons_of_mem _ hx)⟩

/-- What Bytes answers. -/
def bytesB (u : List UInt8) : Bool := (runes u).all alone
def bytesV (u : List UInt8) : List UInt8 := if bytesB u then asBytes (runes u) else []

/-! ### pairs -/
def marked : List UInt8 → Bool
  | a :: b :: _ => a == 254 && b == 255
  | _ => false
def pair (r : Nat) : List UInt8 := [(r / 256).toUInt8, (r % 256).toUInt8]
def pairs1 (r : Nat) : List UInt8 := if r ≤ 65535 then pair r else pair (55296 + (r - 65536) / 1024) ++ pair (56320 + (r - 65536) % 1024)
def pairs : List Nat → List UInt8
  | [] => []
  | r :: l => pairs1 r ++ pairs l
theorem pairs_append : ∀ a b : List Nat, pairs (a ++ b) = pairs a ++ pairs b
  | [], _ => rfl
  | r :: a, b => by simp [pairs, pairs_append a b]
theorem pairs1_len (r : Nat) : 2 ≤ (pairs1 r).length ∧ (pairs1 r).length ≤ 4 := by
  unfold pairs1; split <;> simp [pair]
theorem pairs_len : ∀ l : List Nat, (pairs l).length ≤ 4 * l.length
  | [] => Nat.le_refl _
  | r :: l => by
    have := pairs_len l; have := pairs1_len r
    simp [pairs]; omega
theorem pairs_small : ∀ l : List Nat, (∀ r ∈ l, r ≤ 65535) → (pairs l).length = 2 * l.length
  | [], _ => rfl
  | r :: l, h => by
    have := pairs_small l fun x hx => h x (List.mem_cons_of_mem _ hx)
    have h0 := h r List.mem_cons_self
    simp [pairs, pairs1, h0, pair]; omega

/-- What Encode answers. -/
def encodeV (u : List UInt8) : List UInt8 := if bytesB u && !marked (bytesV u) then bytesV u else 254 :: 255 :: pairs (runes u)

/-- The number of a text's first two bytes. -/
def num2 (a b : UInt8) : Nat := a.toNat * 256 + b.toNat
/-- The character with which pairs begin, and of how many bytes it is. -/
def fstC : List UInt8 → Nat × Nat
  | [] => (65533, 0)
  | [_] => (65533, 1)
  | a :: b :: t =>
    if num2 a b < 55296 ∨ 57343 < num2 a b then (num2 a b, 2)
    else if num2 a b < 56320 then
      match t with
      | c :: d :: _ => if 56320 ≤ num2 c d ∧ num2 c d ≤ 57343 then (65536 + (num2 a b - 55296) * 1024 + (num2 c d - 56320), 4) else (65533, 2)
      | _ => (65533, 2)
    else (65533, 2)
theorem fstC_pos (l : List UInt8) (h : l ≠ []) : 1 ≤ (fstC l).2 := by
  match l, h with
  | [_], _ => exact Nat.le_refl _
  | [a, b], _ =>
    simp only [fstC]
    repeat' split
    all_goals simp
  | [a, b, c], _ =>
    simp only [fstC]
    repeat' split
    all_goals simp
  | a :: b :: c :: d :: t, _ =>
    simp only [fstC]
    repeat' split
    all_goals simp
theorem fstC_le (l : List UInt8) : (fstC l).2 ≤ l.length := by
  match l with
  | [] => exact Nat.le_refl _
  | [_] => exact Nat.le_refl _
  | [a, b] =>
    simp only [fstC]
    repeat' split
    all_goals simp
  | [a, b, c] =>
    simp only [fstC]
    repeat' split
    all_goals simp
  | a :: b :: c :: d :: t =>
    simp only [fstC]
    repeat' split
    all_goals simp
theorem num2_lt (a b : UInt8) : num2 a b ≤ 65535 := by
  have := a.toNat_lt; have := b.toNat_lt
  unfold num2; omega
theorem fstC_ok (l : List UInt8) : okR (fstC l).1 := by
  match l with
  | [] => exact okR_err
  | [_] => exact okR_err
  | [a, b] =>
    have := num2_lt a b
    simp only [fstC, okR]
    repeat' split
    all_goals omega
  | [a, b, c] =>
    have := num2_lt a b
    simp only [fstC, okR]
    repeat' split
    all_goals omega
  | a :: b :: c :: d :: t =>
    have := num2_lt a b; have := num2_lt c d
    simp only [fstC, okR]
    repeat' split
    all_goals omega

def unpair (l : List UInt8) : List Nat := unf fstC l
theorem unpair_nil : unpair [] = [] := rfl
theorem unpair_cons (l : List UInt8) (h : l ≠ []) : unpair l = (fstC l).1 :: unpair (l.drop (fstC l).2) := unf_cons _ fstC_pos l h
theorem unpair_ok (l : List UInt8) : ∀ r ∈ unpair l, okR r := unfGo_all _ okR (fun l _ => fstC_ok l) _ l
theorem unpair_len (l : List UInt8) : (unpair l).length ≤ l.length := unf_length _ l

theorem num2_pair (r : Nat) (h : r ≤ 65535) : num2 (r / 256).toUInt8 (r % 256).toUInt8 = r := by
  unfold num2
  rw [u8_lit _ (by omega), u8_lit _ (by omega)]; omega
theorem fstC_pairs1 (r : Nat) (h : okR r) (t : List UInt8) : fstC (pairs1 r ++ t) = (r, (pairs1 r).length) := by
  unfold okR at h
  unfold pairs1
  split
  · rename_i hr
    simp only [pair, List.cons_append, List.nil_append, fstC, num2_pair r hr]
    rw [if_pos (by omega)]; rfl
  · rename_i hr
    have a1 : (r - 65536) / 1024 < 1024 := by omega
    have a2 : (r - 65536) % 1024 < 1024 := by omega
    simp only [pair, List.cons_append, List.nil_append, fstC, num2_pair _ (show 55296 + (r - 65536) / 1024 ≤ 65535 by omega), num2_pair _ (show 56320 + (r - 65536) % 1024 ≤ 65535 by omega)]
    rw [if_neg (by omega), if_pos (by omega), if_pos (by omega)]
    apply Prod.ext
    · show 65536 + (55296 + (r - 65536) / 1024 - 55296) * 1024 + (56320 + (r - 65536) % 1024 - 56320) = r
      omega
    · rfl
theorem pairs1_ne (r : Nat) (t : List UInt8) : pairs1 r ++ t ≠ [] := by
  have h1 := (pairs1_len r).1
  intro h
  have h2 := congrArg List.length h
  rw [List.length_append, List.length_nil] at h2; omega
theorem unpair_pairs : ∀ l : List Nat, (∀ r ∈ l, okR r) → unpair (pairs l) = l
  | [], _ => rfl
  | r :: l, h => by
    have h0 := h r List.mem_cons_self
    have d := fstC_pairs1 r h0 (pairs l)
    show unpair (pairs1 r ++ pairs l) = _
    rw [unpair_cons _ (pairs1_ne _ _), d, List.drop_left, unpair_pairs l fun x hx => h x (List.mem_cons_of_mem _ hx)]

/-- A byte's character. -/
def char1 (b : UInt8) : Nat := if alone b.toNat then b.toNat else 65533
theorem char1_ok (b : UInt8) : okR (char1 b) := by
  have := b.toNat_lt
  unfold char1 okR; split <;> omega
/-- The characters of a text string. -/
def chars (s : List UInt8) : List Nat := if marked s then unpair (s.drop 2) else s.map char1
theorem chars_ok (s : List UInt8) : ∀ r ∈ chars s, okR r := by
  unfold chars
  split
  · exact unpair_ok _
  · intro r hr
    obtain ⟨b, -, rfl⟩ := List.mem_map.1 hr
    exact char1_ok b
theorem chars_len (s : List UInt8) : (chars s).length ≤ s.length := by
  unfold chars
  split
  · have := unpair_len (s.drop 2)
    rw [List.length_drop] at this; omega
  · simp
/-- What Decode answers. -/
def decodeV (s : List UInt8) : List UInt8 := enc (chars s)

theorem char1_back (r : Nat) (h : alone r = true) : char1 r.toUInt8 = r := by
  unfold char1
  rw [u8_lit r (alone_lt h), h]; rfl
theorem chars_back : ∀ l : List Nat, (∀ r ∈ l, alone r = true) → (asBytes l).map char1 = l
  | [], _ => rfl
  | r :: l, h => by
    simp only [asBytes, List.map_cons, List.cons.injEq]
    exact ⟨char1_back r (h r List.mem_cons_self), chars_back l fun x hx => h x (List.mem_cons_of_mem _ hx)⟩

/-- What is encoded is decoded to what it was. -/
theorem back_enc (L : List Nat) (h : ∀ r ∈ L, okR r) : decodeV (encodeV (enc L)) = enc L := by
  have hr := runes_enc L h
  unfold encodeV
  by_cases hc : (bytesB (enc L) && !marked (bytesV (enc L))) = true
  · rw [if_pos hc]
    simp only [Bool.and_eq_true, Bool.not_eq_true'] at hc
    have hb : bytesV (enc L) = asBytes L := by simp [bytesV, hc.1, hr]
    have ha : ∀ r ∈ L, alone r = true := by
      have := hc.1
      unfold bytesB at this
      rw [hr] at this
      exact List.all_eq_true.1 this
    unfold decodeV chars
    rw [hc.2, hb]
    simp only [Bool.false_eq_true, if_false]
    rw [chars_back L ha]
  · rw [if_neg hc, hr]
    unfold decodeV chars
    have : marked (254 :: 255 :: pairs L) = true := rfl
    rw [this, if_pos rfl]
    show enc (unpair (pairs L)) = _
    rw [unpair_pairs L h]
theorem back_any (s : List UInt8) : decodeV (encodeV (decodeV s)) = decodeV s := back_enc _ (chars_ok s)
/-- A text that is bytes. -/
theorem bytes_any (s : List UInt8) (hb : bytesB (decodeV s) = true) (hm : marked (bytesV (decodeV s)) = false) :
    decodeV (bytesV (decodeV s)) = decodeV s ∧ encodeV (decodeV s) = bytesV (decodeV s) := by
  have he : encodeV (decodeV s) = bytesV (decodeV s) := by
    unfold encodeV
    rw [hb, hm]; rfl
  exact ⟨by rw [← he]; exact back_any s, he⟩

/-! ### bytes of ASCII -/
def plain (b : UInt8) : Bool := decide (32 ≤ b.toNat) && decide (b.toNat ≤ 126)
theorem plain_alone {b : UInt8} (h : plain b = true) : alone b.toNat = true := by
  unfold plain at h; unfold alone
  simp at h
  have h1 : decide (32 ≤ b.toNat) = true := by simpa using h.1
  have h2 : decide (b.toNat ≤ 126) = true := by simpa using h.2
  rw [h1, h2]; simp
def nums (s : List UInt8) : List Nat := s.map fun b => b.toNat
theorem nums_back : ∀ s : List UInt8, asBytes (nums s) = s
  | [] => rfl
  | b :: s => by
    have := nums_back s
    simp only [nums, asBytes, List.map_cons, List.cons.injEq] at *
    exact ⟨u8_ext (by rw [u8_lit _ b.toNat_lt]), this⟩
theorem enc_ascii : ∀ s : List UInt8, (∀ b ∈ s, plain b = true) → enc (nums s) = s
  | [], _ => rfl
  | b :: s, h => by
    have h0 := h b List.mem_cons_self
    unfold plain at h0
    simp at h0
    have e : encodeRune (b.toNat : Int) = [b] := by
      simp only [encodeRune, Lib.encodeRuneZ_one (r := (b.toNat : Int)) (by omega) (by omega), List.map_cons, List.map_nil, List.cons.injEq, and_true]
      exact u8_ext (by show (b.toNat.toUInt8).toNat = _; rw [u8_lit _ b.toNat_lt])
    show encodeRune (b.toNat : Int) ++ enc (nums s) = _
    rw [e, enc_ascii s fun x hx => h x (List.mem_cons_of_mem _ hx)]; rfl
theorem nums_ok (s : List UInt8) : ∀ r ∈ nums s, okR r := by
  intro r hr
  obtain ⟨b, -, rfl⟩ := List.mem_map.1 hr
  have := b.toNat_lt
  unfold okR; omega
theorem nums_alone (s : List UInt8) (h : ∀ b ∈ s, plain b = true) : ∀ r ∈ nums s, alone r = true := by
  intro r hr
  obtain ⟨b, hb, rfl⟩ := List.mem_map.1 hr
  exact plain_alone (h b hb)
theorem plain_marked (s : List UInt8) (h : ∀ b ∈ s, plain b = true) : marked s = false := by
  match s, h with
  | [], _ => rfl
  | [_], _ => rfl
  | a :: b :: t, h =>
    have h0 := h a List.mem_cons_self
    unfold marked
    have : a ≠ 254 := by
      intro e; rw [e] at h0; exact absurd h0 (by decide)
    simp [this]
theorem plain_runes (s : List UInt8) (h : ∀ b ∈ s, plain b = true) : runes s = nums s := by
  conv => lhs; rw [← enc_ascii s h]
  exact runes_enc _ (nums_ok s)
/-- Printed bytes are themselves, in every way. -/
theorem plain_all (s : List UInt8) (h : ∀ b ∈ s, plain b = true) : decodeV s = s ∧ encodeV s = s ∧ bytesB s = true ∧ bytesV s = s := by
  have hr := plain_runes s h
  have hb : bytesB s = true := by
    unfold bytesB; rw [hr]; exact List.all_eq_true.2 (nums_alone s h)
  have hv : bytesV s = s := by
    unfold bytesV; rw [hb, if_pos rfl, hr, nums_back]
  have hm := plain_marked s h
  refine ⟨?_, ?_, hb, hv⟩
  · unfold decodeV chars
    rw [hm]
    simp only [Bool.false_eq_true, if_false]
    have : s.map char1 = nums s := by
      refine List.map_congr_left fun b hb => ?_
      unfold char1; rw [plain_alone (h b hb)]; rfl
    rw [this, enc_ascii s h]
  · unfold encodeV
    rw [hb, hv, hm]; rfl
/-- A character beyond 255 behind them. -/
theorem plain_more (s : List UInt8) (h : ∀ b ∈ s, plain b = true) (q : Nat) (h0 : 256 ≤ q) (h1 : q ≤ 4351) :
    bytesB (s ++ encodeRune (q : Int)) = false ∧ (encodeV (s ++ encodeRune (q : Int))).length = 2 * s.length + 4 ∧ decodeV (encodeV (s ++ encodeRune (q : Int))) = s ++ encodeRune (q : Int) := by
  have he : s ++ encodeRune (q : Int) = enc (nums s ++ [q]) := by
    rw [enc_append, enc_ascii s h]; simp [enc]
  have hok : ∀ r ∈ nums s ++ [q], okR r := by
    intro r hr
    rcases List.mem_append.1 hr with hr | hr
    · exact nums_ok s r hr
    · rw [List.mem_singleton.1 hr]; unfold okR; omega
  have hr := runes_enc _ hok
  have hb : bytesB (enc (nums s ++ [q])) = false := by
    unfold bytesB
    rw [hr, List.all_append]
    have : alone q = false := by
      unfold alone; simp; omega
    simp [this]
  rw [he]
  refine ⟨hb, ?_, back_enc _ hok⟩
  unfold encodeV
  rw [hb, hr]
  simp only [Bool.false_and, Bool.false_eq_true, if_false]
  have := pairs_small (nums s ++ [q]) (by
    intro r hr
    rcases List.mem_append.1 hr with hr | hr
    · obtain ⟨b, -, rfl⟩ := List.mem_map.1 hr
      have := b.toNat_lt; omega
    · rw [List.mem_singleton.1 hr]; omega)
  simp only [List.length_cons, this, List.length_append, List.length_nil]
  simp [nums]; omega

end Go.Proofs.Ytakbhdhlcnpejaa.Mt

namespace Go.Proofs.Ytakbhdhlcnpejaa
open Go.RowKit
set_option linter.unusedSimpArgs false
set_option linter.unusedVariables false

/-- A font. -/
structure Mt.Fo where
  first : Nat
  ws : List Nat
  other : Nat
/-- The width of one byte. -/
def Mt.Fo.one (t : Mt.Fo) (b : Nat) : Nat := if t.first ≤ b then t.ws.getD (b - t.first) t.other else t.other
/-- The width of a text. -/
def Mt.Fo.width (t : Mt.Fo) : List UInt8 → Nat
  | [] => 0
  | b :: l => t.one b.toNat + t.width l
def Mt.Fo.Sane (t : Mt.Fo) : Prop := t.first ≤ 255 ∧ t.other ≤ 5000 ∧ t.ws.length ≤ 256 ∧ ∀ x ∈ t.ws, x ≤ 5000
theorem Mt.Fo.one_le {t : Mt.Fo} (h : t.Sane) (b : Nat) : t.one b ≤ 5000 := by
  unfold Mt.Fo.one
  split
  · by_cases hl : b - t.first < t.ws.length
    · rw [List.getD_eq_getElem?_getD, List.getElem?_eq_getElem hl]
      exact h.2.2.2 _ (List.getElem_mem hl)
    · rw [List.getD_eq_getElem?_getD, List.getElem?_eq_none (by omega)]
      exact h.2.1
  · exact h.2.1
theorem Mt.Fo.width_le {t : Mt.Fo} (h : t.Sane) : ∀ l : List UInt8, t.width l ≤ 5000 * l.length
  | [] => Nat.le_refl _
  | b :: l => by
    have := Mt.Fo.width_le h l
    have := Mt.Fo.one_le h b.toNat
    simp [Mt.Fo.width]; omega
theorem Mt.Fo.width_append (t : Mt.Fo) : ∀ a b : List UInt8, t.width (a ++ b) = t.width a + t.width b
  | [], b => by simp [Mt.Fo.width]
  | c :: a, b => by
    have := Mt.Fo.width_append t a b
    simp [Mt.Fo.width, this]; omega

/-- Numbers that can be read. -/
def NuR (w : World) (B : Nat) (p : Option Addr) (l : List Nat) : Prop :=
  ∀ i (h : i < l.length), ∃ k o, p = some ⟨k, o, none⟩ ∧ k < B ∧ w.cell? ⟨k, o + i, none⟩ = some (.int .i64 (l[i] : Nat))
theorem NuR.keep {w w' : World} {B : Nat} {p : Option Addr} {l : List Nat} (h : NuR w B p l) (hB : B ≤ w.heap.size) (k : Kept w w') : NuR w' B p l := fun i hi => by
  obtain ⟨kb, o, h1, h2, h3⟩ := h i hi
  exact ⟨kb, o, h1, h2, by rw [k.cells.1 _ _ (Nat.lt_of_lt_of_le h2 hB)]; exact h3⟩
theorem NuR.up {w : World} {B B' : Nat} {p : Option Addr} {l : List Nat} (h : NuR w B p l) (hB : B ≤ B') : NuR w B' p l := fun i hi => by
  obtain ⟨kb, o, h1, h2, h3⟩ := h i hi
  exact ⟨kb, o, h1, Nat.lt_of_lt_of_le h2 hB, h3⟩

set_option maxRecDepth 100000 in
theorem widthOf_any (t : Mt.Fo) (p : Option Addr) (c : Nat) (b : UInt8) (w : World) (h : NuR w w.heap.size p t.ws) (hs : t.Sane) :
    Calls Try.prog 28 #[.agg #[.int .i64 t.first, .slice p t.ws.length c, .int .i64 t.other], .int .u8 b.toNat] w fun e w' => e = .returned (.int .i64 (t.one b.toNat)) ∧ Kept w w' := by
  obtain ⟨n, hn⟩ : ∃ n, n = b.toNat := ⟨_, rfl⟩
  have hb : n < 256 := by rw [hn]; exact b.toNat_lt
  rw [← hn]
  clear hn
  obtain ⟨f, hf⟩ : ∃ f, f = t.first := ⟨_, rfl⟩
  obtain ⟨L, hL⟩ : ∃ L, L = t.ws.length := ⟨_, rfl⟩
  have hf1 : f ≤ 255 := by rw [hf]; exact hs.1
  have hL1 : L ≤ 256 := by rw [hL]; exact hs.2.2.1
  by_cases h1 : f ≤ n
  · by_cases h2 : n - f < L
    · obtain ⟨kb, o, rfl, hkb, hc⟩ := h (n - f) (by omega)
      have HE := Lib.hid (show t.one n = t.ws[n - f]'(by omega) by
        unfold Mt.Fo.one
        rw [if_pos (by omega), List.getD_eq_getElem?_getD, ← hf, List.getElem?_eq_getElem (by omega)]; rfl)
      obtain ⟨v, hv⟩ : ∃ v, v = t.ws[n - f]'(by omega) := ⟨_, rfl⟩
      rw [← hv] at hc HE
      clear hv
      rw [← hf, ← hL]
      clear hf hL h hs
      obtain ⟨k, hk⟩ : ∃ k, k = n - f := ⟨_, rfl⟩
      rw [← hk] at hc h2
      have hk1 : (n : Int) - (f : Int) = (k : Int) := by omega
      have hk0 : ¬ (k : Int) < 0 := by omega
      have hk2 : ¬ (L : Int) ≤ (k : Int) := by omega
      have HK := Lib.hid hk
      clear hk
      go_enter Try.func28, Try.ntmps28
      go_wp2_with fail
      go_ret
      exact ⟨by rw [HE.out]; rfl, by repeat (with_reducible first | exact Kept.refl _ | refine Kept.alloc ?_ _ _)⟩
    · have HE := Lib.hid (show t.one n = t.other by
        unfold Mt.Fo.one
        rw [if_pos (by omega), List.getD_eq_getElem?_getD, List.getElem?_eq_none (by omega)]; rfl)
      rw [← hf, ← hL]
      clear hf hL h hs
      obtain ⟨v, hv⟩ : ∃ v, v = t.other := ⟨_, rfl⟩
      rw [← hv] at HE ⊢
      clear hv
      obtain ⟨k, hk⟩ : ∃ k, k = n - f := ⟨_, rfl⟩
      rw [← hk] at h2
      have hk1 : (n : Int) - (f : Int) = (k : Int) := by omega
      have hk0 : ¬ (k : Int) < 0 := by omega
      have hk2 : (L : Int) ≤ (k : Int) := by omega
      have HK := Lib.hid hk
      clear hk
      go_enter Try.func28, Try.ntmps28
      go_wp2_with fail
      go_ret
      exact ⟨by rw [HE.out]; rfl, by repeat (with_reducible first | exact Kept.refl _ | refine Kept.alloc ?_ _ _)⟩
  · have HE := Lib.hid (show t.one n = t.other by
      unfold Mt.Fo.one
      rw [if_neg (by omega)])
    rw [← hf, ← hL]
    clear hf hL h hs
    obtain ⟨v, hv⟩ : ∃ v, v = t.other := ⟨_, rfl⟩
    rw [← hv] at HE ⊢
    clear hv
    have hk0 : (n : Int) - (f : Int) < 0 := by omega
    have hk3 : (n : Int) < (f : Int) := by omega
    go_enter Try.func28, Try.ntmps28
    go_wp2_with fail
    go_ret
    exact ⟨by rw [HE.out]; rfl, by repeat (with_reducible first | exact Kept.refl _ | refine Kept.alloc ?_ _ _)⟩

theorem Mt.take_width (t : Mt.Fo) (l : List UInt8) (j : Nat) (h : j < l.length) : t.width (l.take (j + 1)) = t.width (l.take j) + t.one l[j].toNat := by
  rw [List.take_succ_eq_append_getElem h, Mt.Fo.width_append]
  simp [Mt.Fo.width]

set_option maxRecDepth 100000 in
/-- A text's width. -/
theorem Width_any (t : Mt.Fo) (p : Option Addr) (c : Nat) (s : ByteArray) (w : World) (h : NuR w w.heap.size p t.ws) (hs : t.Sane) (hl : s.size ≤ 4294967296) :
    Calls Try.prog 14 #[.agg #[.int .i64 t.first, .slice p t.ws.length c, .int .i64 t.other], .string s] w fun e w' => e = .returned (.int .i64 (t.width s.data.toList)) ∧ Kept w w' := by
  have HR := Lib.hid h
  have HS := Lib.hid hs
  obtain ⟨l, hll⟩ : ∃ l, l = s.data.toList := ⟨_, rfl⟩
  have hlen : l.length = s.size := by rw [hll]; simp
  rw [← hll]
  have HL := Lib.hid hll
  have HN := Lib.hid hlen
  clear h hs hll hlen
  obtain ⟨f, hf⟩ : ∃ f, f = t.first := ⟨_, rfl⟩
  obtain ⟨L, hL⟩ : ∃ L, L = t.ws.length := ⟨_, rfl⟩
  obtain ⟨o, ho⟩ : ∃ o, o = t.other := ⟨_, rfl⟩
  have C := Lib.hid (fun (b : UInt8) (wx : World) (k : Kept w wx) => widthOf_any t p c b wx ((HR.out.keep (Nat.le_refl _) k).up (Below.size k)) HS.out)
  rw [← hf, ← hL, ← ho] at C ⊢
  clear hf hL ho
  go_enter Try.func14, Try.ntmps14
  go_wp2_with fail
  go_loopg [5, 6, 12] (s.size) (fun m x y i wr => ∃ (j n : Nat), m = s.size - j ∧ j ≤ s.size ∧ x = .int .i64 n ∧ y = .int .i64 0 ∧ i = .int .i64 j ∧ Hid (n = t.width (l.take j)) ∧ Blk wr w.heap.size #[.int .i64 f, .slice p L c, .int .i64 o] 35 ∧ Kept w wr)
  case atStart => exact ⟨0, 0, rfl, Nat.zero_le _, rfl, rfl, rfl, Lib.hid rfl, Blk.fresh _ _ _, (Kept.refl _).alloc _ _⟩
  case round =>
    obtain ⟨j, n, hm, hj, rfl, rfl, rfl, hn, hb, hk⟩ := hrel
    have hnb : n ≤ 5000 * s.size := by
      rw [hn.out]
      have := Mt.Fo.width_le HS.out (l.take j)
      have h2 : (l.take j).length ≤ s.size := by rw [← HN.out]; exact List.length_take_le' _ _
      omega
    by_cases hlt : j < s.size
    · have hlt2 : j < l.length := by rw [HN.out]; exact hlt
      have HG := Lib.hid (show s[j] = l[j] by simp [HL.out]; rfl)
      have HB := Lib.hid hb
      have HK := Lib.hid hk
      have HM := Lib.hid (show n + t.one s[j].toNat = t.width (l.take (j + 1)) by rw [Mt.take_width _ _ _ hlt2, hn.out, HG.out])
      have CC := Lib.hid (C.out s[j])
      have hv1 := Mt.Fo.one_le HS.out s[j].toNat
      obtain ⟨v, hv⟩ : ∃ v, v = t.one s[j].toNat := ⟨_, rfl⟩
      rw [← hv] at CC HM hv1
      have e0 : wr.cell? ⟨w.heap.size, 0, none⟩ = some (.int .i64 f) := hb.cell 0
      have e1 : wr.cell? ⟨w.heap.size, 1, none⟩ = some (.slice p L c) := hb.cell 1
      have e2 : wr.cell? ⟨w.heap.size, 2, none⟩ = some (.int .i64 o) := hb.cell 2
      have hsz := hb.lt
      have hj0 : (0 : Int) ≤ (j : Int) := by omega
      have hj1 : (j : Int) < (s.size : Int) := by omega
      have E0 := Lib.hid e0
      have E1 := Lib.hid e1
      have E2 := Lib.hid e2
      clear hn hb hk hv
      go_wp2_with fail
      go_region_held3 (fun w' => w'.cell? ⟨w.heap.size, 0, none⟩ = some (.int .i64 f) ∧ w'.cell? ⟨w.heap.size, 1, none⟩ = some (.slice p L c) ∧ w'.cell? ⟨w.heap.size, 2, none⟩ = some (.int .i64 o)) (first | go_keep | exact ⟨e0, e1, e2⟩ | exact ⟨d0, d1, d2⟩) ((go_at_call 28; with_reducible refine (CC.out _ HK.out.drew).mono ?_; rintro e w5 ⟨rfl, hk5⟩; have d0 : w5.cell? ⟨w.heap.size, 0, none⟩ = some (.int .i64 f) := (((Kept.refl wr).drew.trans hk5).cells.1 _ _ hsz).trans E0.out; have d1 : w5.cell? ⟨w.heap.size, 1, none⟩ = some (.slice p L c) := (((Kept.refl wr).drew.trans hk5).cells.1 _ _ hsz).trans E1.out; have d2 : w5.cell? ⟨w.heap.size, 2, none⟩ = some (.int .i64 o) := (((Kept.refl wr).drew.trans hk5).cells.1 _ _ hsz).trans E2.out))
      have K5 := Lib.hid hk5
      clear hk5 d0 d1 d2 e0 e1 e2
      have q1 : ¬ (v : Int) < 0 := by omega
      have q2 : ¬ (n : Int) + (v : Int) < (n : Int) := by omega
      go_wp2_with fail
      all_goals
        go_roundg (s.size - (j + 1))
        case measure => omega
        case rel => exact ⟨j + 1, n + v, rfl, by omega, by go_num, rfl, by go_num, Lib.hid HM.out, (HB.out.drew).kept K5.out, (HK.out.drew).trans K5.out⟩
    · obtain rfl : j = s.size := by omega
      have HT := Lib.hid (show n = t.width l by rw [hn.out, ← HN.out, List.take_length])
      clear hn
      go_wp2_with fail
      go_ret
      exact ⟨by rw [← HT.out]; rfl, by assumption⟩

end Go.Proofs.Ytakbhdhlcnpejaa

namespace Go.Proofs.Ytakbhdhlcnpejaa
open Go.RowKit
set_option linter.unusedSimpArgs false
set_option linter.unusedVariables false

def Mt.helvL : List Nat := [278, 278, 355, 556, 556, 889, 667, 191, 333, 333, 389, 584, 278, 333, 278, 278, 556, 556, 556, 556, 556, 556, 556, 556, 556, 556, 278, 278, 584, 584, 584, 556, 1015, 667, 667, 722, 722, 667, 611, 778, 722, 278, 500, 667, 556, 833, 722, 778, 667, 778, 722, 667, 611, 722, 667, 944, 667, 667, 611, 278, 278, 278, 469, 556, 333, 556, 556, 500, 556, 556, 278, 556, 556, 222, 222, 500, 222, 833, 556, 556, 556, 556, 333, 500, 278, 556, 500, 722, 500, 500, 500, 334, 260, 334, 584]
def Mt.timesL : List Nat := [250, 333, 408, 500, 500, 833, 778, 180, 333, 333, 500, 564, 250, 333, 250, 278, 500, 500, 500, 500, 500, 500, 500, 500, 500, 500, 278, 278, 564, 564, 564, 444, 921, 722, 667, 667, 722, 611, 556, 722, 722, 333, 389, 722, 611, 889, 722, 722, 556, 722, 667, 556, 611, 722, 722, 944, 722, 722, 611, 333, 278, 333, 469, 500, 333, 444, 500, 444, 500, 444, 333, 500, 500, 278, 278, 500, 278, 778, 500, 500, 500, 500, 333, 389, 278, 500, 500, 722, 500, 500, 444, 480, 200, 480, 541]
def Mt.numsV (l : List Nat) : List Value := l.map fun n => .int .i64 (n : Nat)

theorem Mt.arr_size : (Try.prog.info? 58).map (·.size) = some 95 := by kernel_rfl

theorem Mt.arr_zero : (Try.prog.info? 58).map (fun i => (i.zero, i.size)) = some (some (.agg (Array.replicate 95 (.int .i64 0))), 95) := by kernel_rfl
theorem setRow_at' {w : World} {c c' : Array Value} {t : TypeId} {g : Nat} (h : g = w.heap.size) : (w.alloc (.cells c t)).setRow g c' = w.alloc (.cells c' t) := by
  subst h; exact World.setRow_alloc_new w c c' t
/-- A whole array stored into a variable that was just made. -/
theorem wpList_store_new' (W : World) {ops : Array Oper} {rest : List Oper} {o : Oper} {a : Act} {Q : Exit → Act → World → Prop} (hgd : o.guard = none) (ty : TypeId) (x y : Operand) (ho : o.op = .store ty x y)
    (g : Nat) (cells : List Value) (c : Array Value) (t : TypeId) (hx : a.eval x = .pointer (some ⟨g, 0, none⟩)) (hy : a.eval y = .agg cells.toArray) (hg : g = W.heap.size)
    (hi : (Try.prog.info? ty).map (·.size) = some cells.length) (hold : c.size = cells.length) (h1 : ∀ u ∈ cells, u.oneCell' = true)
    (h : wpList Try.prog ops Q rest (a.put o.dst undef) (W.alloc (.cells cells.toArray t))) : wpList Try.prog ops Q (o :: rest) a (W.alloc (.cells c t)) := by
  refine wpList_store_row hgd ty x y ho g cells.toArray hx hy t c ?_ (by simpa using hi) (by simpa using hold) (all_oneCell_toArray h1) ?_
  · subst hg; exact heap_alloc_new W _
  · rw [setRow_at' hg]; exact h
theorem Mt.numsV_one (l : List Nat) : ∀ u ∈ Mt.numsV l, u.oneCell' = true := by
  intro u hu
  obtain ⟨n, -, rfl⟩ := List.mem_map.1 hu
  rfl

theorem wpList_built {ops : Array Oper} {rest : List Oper} {o : Oper} {a : Act} {w : World} {Q : Exit → Act → World → Prop} (hg : o.guard = none) (t : TypeId) (parts : Array (Nat × Operand)) (ho : o.op = .build t parts)
    (cells : Array Value) (hc : Try.prog.built t (parts.map fun (i, x) => (i, a.eval x)).toList = some cells) (h : wpList Try.prog ops Q rest (a.put o.dst (.agg cells)) w) : wpList Try.prog ops Q (o :: rest) a w :=
  wpList_build hg t parts ho (by rw [hc]; rfl) (by rw [hc]; exact h)

set_option maxRecDepth 100000 in
set_option maxHeartbeats 4000000 in
theorem helvetica_any (w : World) :
    Calls Try.prog 18 #[] w fun e w' => e = .returned (.agg (Mt.numsV Mt.helvL).toArray) ∧ Kept w w' := by
  have hz := zero_of_info (P := Try.prog) Mt.arr_zero
  have HB := Lib.hid (Blk.fresh w (Mt.numsV Mt.helvL).toArray 58)
  go_enter Try.func18, Try.ntmps18
  simp only [List.append_eq, List.cons_append, List.nil_append]
  go_upto_region 1 with fail
  refine wp_region_lit ?_
  refine wpList_built (by rfl) 58 _ (by rfl) (Mt.numsV Mt.helvL).toArray (by kernel_rfl) ?_
  refine wpList_store_new' w (by rfl) 58 _ _ (by rfl) w.heap.size (Mt.numsV Mt.helvL) _ 58 (by rfl) (by rfl) rfl Mt.arr_size (by rfl) (Mt.numsV_one _) ?_
  refine wpList_nil ?_
  rename_i kk
  refine kk _ _ ?_
  refine wp_ret ?_
  change bodyPost _ _ _ Exit.ret _ _
  refine bodyPost_ret (v := .agg (Mt.numsV Mt.helvL).toArray) ?_ rfl ⟨rfl, (Kept.refl w).alloc _ _⟩
  exact results_cell_row (by rfl) _ _ w.heap.size _ _ _ _ (by rfl) HB.out Try.underlying58 rfl (by rw [Mt.arr_size]; rfl)

set_option maxRecDepth 100000 in
set_option maxHeartbeats 4000000 in
theorem times_any (w : World) :
    Calls Try.prog 19 #[] w fun e w' => e = .returned (.agg (Mt.numsV Mt.timesL).toArray) ∧ Kept w w' := by
  have hz := zero_of_info (P := Try.prog) Mt.arr_zero
  have HB := Lib.hid (Blk.fresh w (Mt.numsV Mt.timesL).toArray 58)
  go_enter Try.func19, Try.ntmps19
  simp only [List.append_eq, List.cons_append, List.nil_append]
  go_upto_region 1 with fail
  refine wp_region_lit ?_
  refine wpList_built (by rfl) 58 _ (by rfl) (Mt.numsV Mt.timesL).toArray (by kernel_rfl) ?_
  refine wpList_store_new' w (by rfl) 58 _ _ (by rfl) w.heap.size (Mt.numsV Mt.timesL) _ 58 (by rfl) (by rfl) rfl Mt.arr_size (by rfl) (Mt.numsV_one _) ?_
  refine wpList_nil ?_
  rename_i kk
  refine kk _ _ ?_
  refine wp_ret ?_
  change bodyPost _ _ _ Exit.ret _ _
  refine bodyPost_ret (v := .agg (Mt.numsV Mt.timesL).toArray) ?_ rfl ⟨rfl, (Kept.refl w).alloc _ _⟩
  exact results_cell_row (by rfl) _ _ w.heap.size _ _ _ _ (by rfl) HB.out Try.underlying58 rfl (by rw [Mt.arr_size]; rfl)

/-- A font's cells in memory. -/
def Mt.fontV (t : Mt.Fo) (p : Option Addr) (c : Nat) : Value := .agg #[.int .i64 t.first, .slice p t.ws.length c, .int .i64 t.other]
def Mt.helv : Mt.Fo := ⟨32, Mt.helvL, 556⟩
def Mt.tims : Mt.Fo := ⟨32, Mt.timesL, 500⟩
def Mt.cour : Mt.Fo := ⟨32, [], 600⟩
def Mt.noF : Mt.Fo := ⟨0, [], 0⟩
/-- What Standard answers. -/
def Mt.stdT (s : List UInt8) : Mt.Fo := if s = [72, 101, 108, 118, 101, 116, 105, 99, 97] then Mt.helv else if s = [84, 105, 109, 101, 115, 45, 82, 111, 109, 97, 110] then Mt.tims else if s = [67, 111, 117, 114, 105, 101, 114] then Mt.cour else Mt.noF
def Mt.stdB (s : List UInt8) : Bool := s == [72, 101, 108, 118, 101, 116, 105, 99, 97] || s == [84, 105, 109, 101, 115, 45, 82, 111, 109, 97, 110] || s == [67, 111, 117, 114, 105, 101, 114]
theorem Mt.helv_sane : Mt.helv.Sane := by
  refine ⟨by decide, by decide, by decide, ?_⟩
  have : Mt.helvL.all (fun x => decide (x ≤ 5000)) = true := by kernel_rfl
  intro x hx
  exact of_decide_eq_true (List.all_eq_true.1 this x hx)
theorem Mt.tims_sane : Mt.tims.Sane := by
  refine ⟨by decide, by decide, by decide, ?_⟩
  have : Mt.timesL.all (fun x => decide (x ≤ 5000)) = true := by kernel_rfl
  intro x hx
  exact of_decide_eq_true (List.all_eq_true.1 this x hx)
theorem Mt.cour_sane : Mt.cour.Sane := ⟨by decide, by decide, by decide, fun x hx => by simp [Mt.cour] at hx⟩
theorem Mt.noF_sane : Mt.noF.Sane := ⟨by decide, by decide, by decide, fun x hx => by simp [Mt.noF] at hx⟩
theorem Mt.stdT_sane (s : List UInt8) : (Mt.stdT s).Sane := by
  unfold Mt.stdT
  split
  · exact Mt.helv_sane
  · split
    · exact Mt.tims_sane
    · split
      · exact Mt.cour_sane
      · exact Mt.noF_sane
theorem NuR.of_blk {w : World} {k : Nat} {l : List Nat} {t : TypeId} (h : Blk w k (Mt.numsV l).toArray t) {B : Nat} (hB : k < B) : NuR w B (some ⟨k, 0, none⟩) l := fun i hi => by
  refine ⟨k, 0, rfl, hB, ?_⟩
  rw [Nat.zero_add, h.cell i]
  simp [Mt.numsV, hi]
theorem NuR.nil (w : World) (B : Nat) (p : Option Addr) : NuR w B p [] := fun i hi => by simp at hi

/-- What Standard leaves. -/
def StdPost (w : World) (t : Mt.Fo) (ok : Bool) (e : Ending) (w' : World) : Prop := ∃ p c, e = .returned (.tuple #[Mt.fontV t p c, .bool ok]) ∧ NuR w' w'.heap.size p t.ws ∧ Kept w w'

set_option maxRecDepth 100000 in
theorem Standard_helv (w : World) :
    Calls Try.prog 7 #[.string ⟨#[72, 101, 108, 118, 101, 116, 105, 99, 97]⟩] w (StdPost w Mt.helv true) := by
  have C := Lib.hid (fun wx => helvetica_any wx)
  obtain ⟨N, hN⟩ : ∃ N, N = Mt.numsV Mt.helvL := ⟨_, rfl⟩
  have HL := Lib.hid (show N.length = 95 by rw [hN]; rfl)
  have HO := Lib.hid (show ∀ u ∈ N, u.oneCell' = true by rw [hN]; exact Mt.numsV_one _)
  rw [← hN] at C
  have HN := Lib.hid hN
  clear hN
  have hz := (zero_of_info (P := Try.prog) Mt.arr_zero).1
  obtain ⟨Z, hZ⟩ : ∃ Z : Array Value, Z = Array.replicate 95 (.int .i64 0) := ⟨_, rfl⟩
  have HZ := Lib.hid (show Z.size = 95 by rw [hZ]; simp)
  rw [← hZ] at hz
  clear hZ
  go_enter Try.func7, Try.ntmps7
  go_wp2_with fail
  (with_reducible refine (C.out _).mono ?_)
  rintro e w1 ⟨rfl, hk1⟩
  have B1 := Lib.hid (show Blk w1 w.heap.size #[.int .i64 0, .slice none 0 0, .int .i64 0] 35 from (Blk.fresh w _ _).kept hk1)
  have K1 := Lib.hid (show Kept w w1 from ((Kept.refl w).alloc _ _).trans hk1)
  clear hk1
  have e0 := B1.out.cell 0
  have e1 := B1.out.cell 1
  have e2 := B1.out.cell 2
  have ef := B1.out.free
  have el := B1.out.lt
  go_wp2_with (refine wpList_store_new' w1 (by rfl) 58 _ _ (by rfl) w1.heap.size N _ 58 (by rfl) (by rfl) rfl (by rw [HL.out]; exact Mt.arr_size) (by rw [HL.out, HZ.out]) HO.out ?_)
  refine bodyPost_ret (v := .tuple #[.agg #[.int .i64 32, .slice (some ⟨w1.heap.size, 0, none⟩) 95 95, .int .i64 556], .bool true]) ?_ rfl ⟨some ⟨w1.heap.size, 0, none⟩, 95, rfl, ?_, ?_⟩
  · simp [results, Try.results7, go_sem, e0, e1, e2, el]
  · refine NuR.of_blk (t := 58) ?_ (by simp)
    rw [show Mt.numsV Mt.helv.ws = N from HN.out.symm]
    exact Blk.fresh' _ _ (by simp)
  · repeat (with_reducible first | exact K1.out | refine Kept.alloc ?_ _ _ | refine Kept.set ?_ (Nat.le_refl _) _)

set_option maxRecDepth 100000 in
theorem Standard_times (w : World) :
    Calls Try.prog 7 #[.string ⟨#[84, 105, 109, 101, 115, 45, 82, 111, 109, 97, 110]⟩] w (StdPost w Mt.tims true) := by
  have C := Lib.hid (fun wx => times_any wx)
  obtain ⟨N, hN⟩ : ∃ N, N = Mt.numsV Mt.timesL := ⟨_, rfl⟩
  have HL := Lib.hid (show N.length = 95 by rw [hN]; rfl)
  have HO := Lib.hid (show ∀ u ∈ N, u.oneCell' = true by rw [hN]; exact Mt.numsV_one _)
  rw [← hN] at C
  have HN := Lib.hid hN
  clear hN
  have hz := (zero_of_info (P := Try.prog) Mt.arr_zero).1
  obtain ⟨Z, hZ⟩ : ∃ Z : Array Value, Z = Array.replicate 95 (.int .i64 0) := ⟨_, rfl⟩
  have HZ := Lib.hid (show Z.size = 95 by rw [hZ]; simp)
  rw [← hZ] at hz
  clear hZ
  go_enter Try.func7, Try.ntmps7
  go_wp2_with fail
  (with_reducible refine (C.out _).mono ?_)
  rintro e w1 ⟨rfl, hk1⟩
  have B1 := Lib.hid (show Blk w1 w.heap.size #[.int .i64 0, .slice none 0 0, .int .i64 0] 35 from (Blk.fresh w _ _).kept hk1)
  have K1 := Lib.hid (show Kept w w1 from ((Kept.refl w).alloc _ _).trans hk1)
  clear hk1
  have e0 := B1.out.cell 0
  have e1 := B1.out.cell 1
  have e2 := B1.out.cell 2
  have ef := B1.out.free
  have el := B1.out.lt
  go_wp2_with (refine wpList_store_new' w1 (by rfl) 58 _ _ (by rfl) w1.heap.size N _ 58 (by rfl) (by rfl) rfl (by rw [HL.out]; exact Mt.arr_size) (by rw [HL.out, HZ.out]) HO.out ?_)
  refine bodyPost_ret (v := .tuple #[.agg #[.int .i64 32, .slice (some ⟨w1.heap.size, 0, none⟩) 95 95, .int .i64 500], .bool true]) ?_ rfl ⟨some ⟨w1.heap.size, 0, none⟩, 95, rfl, ?_, ?_⟩
  · simp [results, Try.results7, go_sem, e0, e1, e2, el]
  · refine NuR.of_blk (t := 58) ?_ (by simp)
    rw [show Mt.numsV Mt.tims.ws = N from HN.out.symm]
    exact Blk.fresh' _ _ (by simp)
  · repeat (with_reducible first | exact K1.out | refine Kept.alloc ?_ _ _ | refine Kept.set ?_ (Nat.le_refl _) _)

set_option maxRecDepth 100000 in
theorem Standard_cour (w : World) :
    Calls Try.prog 7 #[.string ⟨#[67, 111, 117, 114, 105, 101, 114]⟩] w (StdPost w Mt.cour true) := by
  go_enter Try.func7, Try.ntmps7
  go_wp2_with fail
  refine bodyPost_ret (v := .tuple #[.agg #[.int .i64 32, .slice none 0 0, .int .i64 600], .bool true]) ?_ rfl ⟨none, 0, rfl, NuR.nil _ _ _, ?_⟩
  · simp [results, Try.results7, go_sem]
  · repeat (with_reducible first | exact Kept.refl _ | refine Kept.alloc ?_ _ _ | refine Kept.set ?_ (Nat.le_refl _) _)
set_option maxRecDepth 100000 in
theorem Standard_none (s : ByteArray) (w : World) (h1 : (s.toList == [72, 101, 108, 118, 101, 116, 105, 99, 97]) = false) (h2 : (s.toList == [84, 105, 109, 101, 115, 45, 82, 111, 109, 97, 110]) = false) (h3 : (s.toList == [67, 111, 117, 114, 105, 101, 114]) = false) :
    Calls Try.prog 7 #[.string s] w (StdPost w Mt.noF false) := by
  go_enter Try.func7, Try.ntmps7
  go_wp2_with fail
  refine bodyPost_ret (v := .tuple #[.agg #[.int .i64 0, .slice none 0 0, .int .i64 0], .bool false]) ?_ rfl ⟨none, 0, rfl, NuR.nil _ _ _, ?_⟩
  · simp [results, Try.results7, go_sem]
  · repeat (with_reducible first | exact Kept.refl _ | refine Kept.alloc ?_ _ _ | refine Kept.set ?_ (Nat.le_refl _) _)
theorem Mt.str_ne {s a : List UInt8} (h : s ≠ a) : ((⟨s.toArray⟩ : ByteArray).toList == a) = false := by
  rw [Lib.toList_data]
  exact beq_eq_false_iff_ne.2 h
/-- Standard, of any name. -/
theorem Standard_any (s : List UInt8) (w : World) :
    Calls Try.prog 7 #[.string ⟨s.toArray⟩] w (StdPost w (Mt.stdT s) (Mt.stdB s)) := by
  by_cases h1 : s = [72, 101, 108, 118, 101, 116, 105, 99, 97]
  · subst h1; exact Standard_helv w
  by_cases h2 : s = [84, 105, 109, 101, 115, 45, 82, 111, 109, 97, 110]
  · subst h2; exact Standard_times w
  by_cases h3 : s = [67, 111, 117, 114, 105, 101, 114]
  · subst h3; exact Standard_cour w
  have e1 : Mt.stdT s = Mt.noF := by unfold Mt.stdT; rw [if_neg h1, if_neg h2, if_neg h3]
  have e2 : Mt.stdB s = false := by
    unfold Mt.stdB
    rw [beq_eq_false_iff_ne.2 h1, beq_eq_false_iff_ne.2 h2, beq_eq_false_iff_ne.2 h3]; rfl
  rw [e1, e2]
  exact Standard_none _ w (Mt.str_ne h1) (Mt.str_ne h2) (Mt.str_ne h3)

end Go.Proofs.Ytakbhdhlcnpejaa

namespace Go.Proofs.Ytakbhdhlcnpejaa
open Cx Sx
set_option linter.unusedSimpArgs false
set_option linter.unusedVariables false

def Mt.whole (m : Int) (o : Ob) : Bool := o.k == 2 && decide (o.f.tmod 1000 = 0) && decide (0 ≤ o.f) && decide (o.f ≤ m * 1000)
def Mt.num (o : Ob) : Nat := (o.f.tdiv 1000).toNat
/-- The widths to which objects lead. -/
def Mt.wsV (l : List Nm) : List Ob → Int × List Nat
  | [] => (0, [])
  | x :: r => if (resV l x).1 = 0 then (if Mt.whole 5000 (resV l x).2 = true then (if (Mt.wsV l r).1 = 0 then (0, Mt.num (resV l x).2 :: (Mt.wsV l r).2) else ((Mt.wsV l r).1, [])) else (3, [])) else ((resV l x).1, [])
def Mt.widthsV (l : List Nm) (a : Ob) : Int × List Nat := if a.k = 5 then (if a.l.length ≤ 256 then Mt.wsV l a.l else (6, [])) else (3, [])
def Mt.keyW : ByteArray := ⟨#[87, 105, 100, 116, 104, 115]⟩
def Mt.keyB : ByteArray := ⟨#[66, 97, 115, 101, 70, 111, 110, 116]⟩
def Mt.keyF : ByteArray := ⟨#[70, 105, 114, 115, 116, 67, 104, 97, 114]⟩
/-- The font that a Dict without widths names: of what BaseFont leads to. -/
def Mt.nameV (b : Int × Ob) : Int × Mt.Fo := if b.1 = 0 then (if b.2.k = 3 then (if Mt.stdB b.2.s.data.toList = true then (0, Mt.stdT b.2.s.data.toList) else (3, Mt.noF)) else (3, Mt.noF)) else (b.1, Mt.noF)
/-- The font of widths: of them, and of what FirstChar leads to. -/
def Mt.listV (w : Int × List Nat) (c : Int × Ob) : Int × Mt.Fo := if w.1 = 0 then (if c.1 = 0 then (if c.2.n = 1 ∧ Mt.whole 255 c.2 = true then (0, ⟨Mt.num c.2, w.2, 0⟩) else (3, Mt.noF)) else (c.1, Mt.noF)) else (w.1, Mt.noF)
/-- An object's font. -/
def Mt.ofV (l : List Nm) (o : Ob) : Int × Mt.Fo :=
  if (resV l o).1 = 0 then
    if (resV l o).2.k = 6 then
      if (entryV l (resV l o).2 Mt.keyW).1 = 0 then
        if (entryV l (resV l o).2 Mt.keyW).2.k = 0 then Mt.nameV (entryV l (resV l o).2 Mt.keyB)
        else Mt.listV (Mt.widthsV l (entryV l (resV l o).2 Mt.keyW).2) (entryV l (resV l o).2 Mt.keyF)
      else ((entryV l (resV l o).2 Mt.keyW).1, Mt.noF)
    else (9, Mt.noF)
  else ((resV l o).1, Mt.noF)

/-- The ways of a number that is to be whole. -/
theorem Mt.whole_ways (m : Int) (o : Ob) : ((o.k == 2) = false ∧ Mt.whole m o = false) ∨ ((o.k == 2) = true ∧ (o.f.tmod 1000 == 0) = false ∧ Mt.whole m o = false) ∨ ((o.k == 2) = true ∧ (o.f.tmod 1000 == 0) = true ∧ o.f < 0 ∧ Mt.whole m o = false) ∨
    ((o.k == 2) = true ∧ (o.f.tmod 1000 == 0) = true ∧ 0 ≤ o.f ∧ m * 1000 < o.f ∧ Mt.whole m o = false) ∨ ((o.k == 2) = true ∧ (o.f.tmod 1000 == 0) = true ∧ 0 ≤ o.f ∧ o.f ≤ m * 1000 ∧ Mt.whole m o = true) := by
  unfold Mt.whole
  cases h1 : (o.k == 2)
  · exact .inl ⟨rfl, rfl⟩
  · by_cases h2 : o.f.tmod 1000 = 0
    · have e2 : (o.f.tmod 1000 == 0) = true := by simpa using h2
      by_cases h3 : 0 ≤ o.f
      · by_cases h4 : o.f ≤ m * 1000
        · exact .inr (.inr (.inr (.inr ⟨rfl, e2, h3, h4, by simp [h2, h3, h4]⟩)))
        · exact .inr (.inr (.inr (.inl ⟨rfl, e2, h3, by omega, by simp [h4]⟩)))
      · exact .inr (.inr (.inl ⟨rfl, e2, by omega, by simp [h3]⟩))
    · exact .inr (.inl ⟨rfl, by simpa using h2, by simp [h2]⟩)
theorem Mt.num_of {m : Int} {o : Ob} (h : Mt.whole m o = true) : (o.k == 2) = true ∧ (o.f.tmod 1000 == 0) = true ∧ 0 ≤ o.f ∧ o.f ≤ m * 1000 ∧ o.f.tdiv 1000 = (Mt.num o : Int) := by
  rcases Mt.whole_ways m o with ⟨-, e⟩ | ⟨-, -, e⟩ | ⟨-, -, -, e⟩ | ⟨-, -, -, -, e⟩ | ⟨h1, h2, h3, h4, -⟩
  iterate 4 (rw [h] at e; cases e)
  refine ⟨h1, h2, h3, h4, ?_⟩
  unfold Mt.num
  have : 0 ≤ o.f.tdiv 1000 := Int.tdiv_nonneg h3 (by decide)
  omega
/-- The widths, as far as they have come. -/
def Mt.goV (l : List Nm) (a : List Nat) (r : List Ob) : Int × List Nat := if (Mt.wsV l r).1 = 0 then (0, a ++ (Mt.wsV l r).2) else ((Mt.wsV l r).1, [])
theorem Mt.goV_nil (l : List Nm) (a : List Nat) : Mt.goV l a [] = (0, a) := by simp [Mt.goV, Mt.wsV]
theorem Mt.wsV_bad {l : List Nm} : ∀ r : List Ob, ¬ (Mt.wsV l r).1 = 0 → (Mt.wsV l r).2 = []
  | [], h => absurd rfl h
  | x :: r, h => by
    rw [Mt.wsV] at h ⊢
    by_cases h1 : (resV l x).1 = 0
    · rw [if_pos h1] at h ⊢
      by_cases h2 : Mt.whole 5000 (resV l x).2 = true
      · rw [if_pos h2] at h ⊢
        by_cases h3 : (Mt.wsV l r).1 = 0
        · rw [if_pos h3] at h; exact absurd rfl h
        · rw [if_neg h3]
      · rw [if_neg h2]
    · rw [if_neg h1]
theorem Mt.goV_start (l : List Nm) (r : List Ob) : Mt.goV l [] r = Mt.wsV l r := by
  unfold Mt.goV
  by_cases h : (Mt.wsV l r).1 = 0
  · rw [if_pos h, List.nil_append, ← h]
  · rw [if_neg h, ← Mt.wsV_bad r h]
theorem Mt.goV_bad {l : List Nm} {a : List Nat} {x : Ob} {r : List Ob} (h : (resV l x).1 ≠ 0) : Mt.goV l a (x :: r) = ((resV l x).1, []) := by
  unfold Mt.goV; rw [Mt.wsV, if_neg h]; simp [h]
theorem Mt.goV_form {l : List Nm} {a : List Nat} {x : Ob} {r : List Ob} (h : (resV l x).1 = 0) (k : Mt.whole 5000 (resV l x).2 = false) : Mt.goV l a (x :: r) = (3, []) := by
  unfold Mt.goV; rw [Mt.wsV]; simp [h, k]
theorem Mt.goV_step {l : List Nm} {a : List Nat} {x : Ob} {r : List Ob} (h : (resV l x).1 = 0) (k : Mt.whole 5000 (resV l x).2 = true) : Mt.goV l a (x :: r) = Mt.goV l (a ++ [Mt.num (resV l x).2]) r := by
  unfold Mt.goV; rw [Mt.wsV, if_pos h, if_pos k]
  by_cases e : (Mt.wsV l r).1 = 0
  · rw [if_pos e, if_pos e]; simp
  · rw [if_neg e, if_neg e, if_neg e]
theorem Mt.wsV_len {l : List Nm} : ∀ r : List Ob, (Mt.wsV l r).2.length ≤ r.length
  | [] => Nat.le_refl _
  | x :: r => by
    have := Mt.wsV_len (l := l) r
    rw [Mt.wsV]
    repeat split
    all_goals simp <;> omega

end Go.Proofs.Ytakbhdhlcnpejaa

namespace Go.Proofs.Ytakbhdhlcnpejaa
open Go.RowKit
set_option linter.unusedSimpArgs false
set_option linter.unusedVariables false

theorem Mt.info_int : (Try.prog.info? 3).map (fun i => (i.zero, i.size, i.bytes)) = some (some (.int .i64 0), 1, 8) := by kernel_rfl
/-- Numbers of a call's own. -/
def OwI (w : World) (B : Nat) (v : Value) (l : List Nat) : Prop := w.ownsRow B 3 1 v l.length (Mt.numsV l)
theorem OwI.nil (w : World) (B : Nat) : OwI w B (.slice none 0 0) [] := World.ownsRow_nil _ _ _ _
theorem OwI.lt {w : World} {B : Nat} {v : Value} {l : List Nat} (h : OwI w B v l) : ∀ k, v.ownBlock = some k → B ≤ k ∧ k < w.heap.size := World.ownsRow.lt h
theorem OwI.gb {w w' : World} {B : Nat} {v : Value} {l : List Nat} (h : OwI w B v l) {r : Option Nat} (g : w.grownBy w' r) (hne : v.ownBlock = none ∨ v.ownBlock ≠ r) : OwI w' B v l := World.ownsRow.kept h g hne
theorem OwI.kept {w w' : World} {B : Nat} {v : Value} {l : List Nat} (h : OwI w B v l) (k : Kept w w') : OwI w' B v l :=
  h.gb (r := none) ⟨k.os, k.tape, k.output, k.size, fun j hj _ => k.block j hj⟩ (by cases hv : v.ownBlock with
    | none => exact .inl rfl
    | some g => exact .inr (by simp))
theorem OwI.kind {w : World} {B : Nat} {v : Value} {l : List Nat} (h : OwI w B v l) : ∀ g, v.ownBlock = some g → ∃ c fz, w.heap[g]? = some (.cells c 3 fz) := by
  intro g hg
  rcases h.2 with ⟨rfl, _⟩ | ⟨g', cap, cur, rfl, _, hh, _⟩
  · simp [Value.ownBlock] at hg
  · simp only [Value.ownBlock, Option.some.injEq] at hg
    subst hg
    exact ⟨cur, _, hh⟩
theorem OwI.shape {w : World} {B : Nat} {v : Value} {l : List Nat} (h : OwI w B v l) : ∃ p c, v = .slice p l.length c ∧ l.length ≤ c ∧ (∀ i (hi : i < l.length), ∃ k, p = some ⟨k, 0, none⟩ ∧ B ≤ k ∧ k < w.heap.size ∧ w.cell? ⟨k, i, none⟩ = some (.int .i64 (l[i] : Nat))) := by
  rcases h.2 with ⟨hv, h0⟩ | ⟨g, cap, cur, hv, hB, hh, hlc, _⟩
  · exact ⟨none, 0, by rw [hv, h0], by omega, fun i hi => by omega⟩
  · refine ⟨some ⟨g, 0, none⟩, cap, hv, by omega, fun i hi => ⟨g, rfl, hB, ?_, ?_⟩⟩
    · exact (Array.getElem?_eq_some_iff.1 hh).1
    · have h2 := h
      unfold OwI at h2
      rw [hv] at h2
      rw [World.ownsRow.cellAt h2 i (by omega)]
      simp [Mt.numsV, hi]
theorem In.below {w wx w' : World} {l : BlkList} {B : Nat} (h : In w l wx) (k : Below B wx w') (hB : w.heap.size ≤ B) (hl : ∀ x ∈ l, x.1 < B) : In w l w' :=
  ⟨Below.trans h.1 (Below.mono k hB), fun x hx => by
    have h1 := h.2 x hx
    have h2 := k.block x.1 (hl x hx)
    unfold Blk at h1 ⊢
    rw [h2]; exact h1⟩
theorem OwI.nuR {w : World} {B : Nat} {v : Value} {l : List Nat} (h : OwI w B v l) : ∃ p c, v = .slice p l.length c ∧ NuR w w.heap.size p l := by
  obtain ⟨p, c, h1, -, h2⟩ := h.shape
  refine ⟨p, c, h1, fun i hi => ?_⟩
  obtain ⟨k, hp, -, hk, hc⟩ := h2 i hi
  exact ⟨k, 0, hp, hk, by rw [Nat.zero_add]; exact hc⟩
/-- Numbers that can be read, in a block not below B. -/
def NuB (w : World) (B : Nat) (p : Option Addr) (l : List Nat) : Prop :=
  ∀ i (h : i < l.length), ∃ k o, p = some ⟨k, o, none⟩ ∧ B ≤ k ∧ k < w.heap.size ∧ w.cell? ⟨k, o + i, none⟩ = some (.int .i64 (l[i] : Nat))
theorem NuB.nil (w : World) (B : Nat) (p : Option Addr) : NuB w B p [] := fun i hi => by simp at hi
theorem NuB.nuR {w : World} {B : Nat} {p : Option Addr} {l : List Nat} (h : NuB w B p l) : NuR w w.heap.size p l := fun i hi => by
  obtain ⟨k, o, h1, -, h3, h4⟩ := h i hi
  exact ⟨k, o, h1, h3, h4⟩
theorem NuB.mono {w : World} {B B' : Nat} {p : Option Addr} {l : List Nat} (h : NuB w B p l) (hB : B' ≤ B) : NuB w B' p l := fun i hi => by
  obtain ⟨k, o, h1, h2, h3, h4⟩ := h i hi
  exact ⟨k, o, h1, Nat.le_trans hB h2, h3, h4⟩
theorem NuB.kept {w w' : World} {B : Nat} {p : Option Addr} {l : List Nat} (h : NuB w B p l) (k : Kept w w') : NuB w' B p l := fun i hi => by
  obtain ⟨kb, o, h1, h2, h3, h4⟩ := h i hi
  exact ⟨kb, o, h1, h2, Nat.lt_of_lt_of_le h3 (Below.size k), by rw [k.cells.1 _ _ h3]; exact h4⟩
theorem NuB.alloc {w : World} {B : Nat} {p : Option Addr} {l : List Nat} (h : NuB w B p l) (o : Obj) : NuB (w.alloc o) B p l := h.kept ((Kept.refl w).allocO o)
theorem NuB.set {w : World} {B : Nat} {p : Option Addr} {l : List Nat} (h : NuB w B p l) {b : Nat} (hb : b < B) (o : Nat) (v : Value) : NuB (w.setCell ⟨b, o, none⟩ v) B p l := fun i hi => by
  obtain ⟨kb, ko, h1, h2, h3, h4⟩ := h i hi
  refine ⟨kb, ko, h1, h2, by simpa using h3, ?_⟩
  have e := Below.heap_setCell w ⟨b, o, none⟩ v kb (show kb ≠ b by omega)
  rw [← h4]
  simp only [World.cell?, e]
theorem OwI.nuB {w : World} {B : Nat} {v : Value} {l : List Nat} (h : OwI w B v l) : ∃ p c, v = .slice p l.length c ∧ NuB w B p l := by
  obtain ⟨p, c, h1, -, h2⟩ := h.shape
  refine ⟨p, c, h1, fun i hi => ?_⟩
  obtain ⟨k, hp, hB, hk, hc⟩ := h2 i hi
  exact ⟨k, 0, hp, hB, hk, by rw [Nat.zero_add]; exact hc⟩
theorem wpList_app_int {ops : Array Oper} {rest : List Oper} {o : Oper} {a : Act} {Q : Exit → Act → World → Prop} (hgd : o.guard = none) (s x : Operand)
    (ho : o.op = .call { callee := .builtin .append, args := #[s, x], argTypes := #[33, 33] })
    {W : World} {B : Nat} {v : Value} {l : List Nat} (hown : OwI W B v l) (hs : a.eval s = v) (r : Nat)
    (hx : a.eval x = .slice (some ⟨W.heap.size, 0, none⟩) 1 1) (hB : B ≤ W.heap.size) (hlen : l.length + 1 ≤ 1099511627776)
    (h : ∀ v' w', OwI w' B v' (l ++ [r]) → Below B W w' → wpList Try.prog ops Q rest (a.put o.dst v') w') :
    wpList Try.prog ops Q (o :: rest) a (W.alloc (.cells #[.int .i64 (r : Nat)] 3)) := by
  obtain ⟨i0, hi, hz0, hz1, hz2⟩ := info_parts Mt.info_int
  have hk := hown.kind
  have hl0 := hown.lt
  refine wpList_append_lies _ hgd s x 33 ho B 3 i0 (.int .i64 0) 1 8 Try.underlying33 hi hz0 hz1 hz2 rfl (by decide) v l.length (Mt.numsV l) hs (World.ownsRow.alloc hown _) ⟨W.heap.size, 0, none⟩ 1 1 [.int .i64 (r : Nat)] hx rfl
    ?_ ?_ (by decide) (by unfold maxLen; omega) (by omega) (by simp; omega) _ rfl ?_
  · intro j u hj
    rw [Addr.add_lit, Nat.zero_add, (Blk.fresh W #[.int .i64 (r : Nat)] 3).cell j]
    simpa using hj
  · intro u hu
    rw [List.mem_singleton.1 hu]; rfl
  · intro g cap w' h1 h2 _ _
    refine h _ w' ?_ (((Below.refl B W).alloc hB _).grown h2 (by simp; omega) (fun j hj => (hl0 j hj).1))
    · unfold OwI
      rw [List.length_append, show Mt.numsV (l ++ [r]) = Mt.numsV l ++ [.int .i64 (r : Nat)] by simp [Mt.numsV]]
      exact h1

end Go.Proofs.Ytakbhdhlcnpejaa

namespace Go.Proofs.Ytakbhdhlcnpejaa
open Go.RowKit
set_option linter.unusedSimpArgs false
set_option linter.unusedVariables false

theorem NuB.of_blk {w : World} {k : Nat} {l : List Nat} {t : TypeId} (h : Blk w k (Mt.numsV l).toArray t) {B : Nat} (hB : B ≤ k) : NuB w B (some ⟨k, 0, none⟩) l := fun i hi => by
  refine ⟨k, 0, rfl, hB, h.lt, ?_⟩
  rw [Nat.zero_add, h.cell i]
  simp [Mt.numsV, hi]

/-- What Standard leaves: its widths lie in a block of its own. -/
def StdPostF (w : World) (t : Mt.Fo) (ok : Bool) (e : Ending) (w' : World) : Prop := ∃ p c, e = .returned (.tuple #[Mt.fontV t p c, .bool ok]) ∧ NuB w' w.heap.size p t.ws ∧ Kept w w'

set_option maxRecDepth 100000 in
theorem StandardF_helv (w : World) :
    Calls Try.prog 7 #[.string ⟨#[72, 101, 108, 118, 101, 116, 105, 99, 97]⟩] w (StdPostF w Mt.helv true) := by
  have C := Lib.hid (fun wx => helvetica_any wx)
  obtain ⟨N, hN⟩ : ∃ N, N = Mt.numsV Mt.helvL := ⟨_, rfl⟩
  have HL := Lib.hid (show N.length = 95 by rw [hN]; rfl)
  have HO := Lib.hid (show ∀ u ∈ N, u.oneCell' = true by rw [hN]; exact Mt.numsV_one _)
  rw [← hN] at C
  have HN := Lib.hid hN
  clear hN
  have hz := (zero_of_info (P := Try.prog) Mt.arr_zero).1
  obtain ⟨Z, hZ⟩ : ∃ Z : Array Value, Z = Array.replicate 95 (.int .i64 0) := ⟨_, rfl⟩
  have HZ := Lib.hid (show Z.size = 95 by rw [hZ]; simp)
  rw [← hZ] at hz
  clear hZ
  go_enter Try.func7, Try.ntmps7
  go_wp2_with fail
  (with_reducible refine (C.out _).mono ?_)
  rintro e w1 ⟨rfl, hk1⟩
  have B1 := Lib.hid (show Blk w1 w.heap.size #[.int .i64 0, .slice none 0 0, .int .i64 0] 35 from (Blk.fresh w _ _).kept hk1)
  have K1 := Lib.hid (show Kept w w1 from ((Kept.refl w).alloc _ _).trans hk1)
  clear hk1
  have e0 := B1.out.cell 0
  have e1 := B1.out.cell 1
  have e2 := B1.out.cell 2
  have ef := B1.out.free
  have el := B1.out.lt
  go_wp2_with (refine wpList_store_new' w1 (by rfl) 58 _ _ (by rfl) w1.heap.size N _ 58 (by rfl) (by rfl) rfl (by rw [HL.out]; exact Mt.arr_size) (by rw [HL.out, HZ.out]) HO.out ?_)
  refine bodyPost_ret (v := .tuple #[.agg #[.int .i64 32, .slice (some ⟨w1.heap.size, 0, none⟩) 95 95, .int .i64 556], .bool true]) ?_ rfl ⟨some ⟨w1.heap.size, 0, none⟩, 95, rfl, ?_, ?_⟩
  · simp [results, Try.results7, go_sem, e0, e1, e2, el]
  · refine NuB.of_blk (t := 58) ?_ (Below.size K1.out)
    rw [show Mt.numsV Mt.helv.ws = N from HN.out.symm]
    exact Blk.fresh' _ _ (by simp)
  · repeat (with_reducible first | exact K1.out | refine Kept.alloc ?_ _ _ | refine Kept.set ?_ (Nat.le_refl _) _)

set_option maxRecDepth 100000 in
theorem StandardF_times (w : World) :
    Calls Try.prog 7 #[.string ⟨#[84, 105, 109, 101, 115, 45, 82, 111, 109, 97, 110]⟩] w (StdPostF w Mt.tims true) := by
  have C := Lib.hid (fun wx => times_any wx)
  obtain ⟨N, hN⟩ : ∃ N, N = Mt.numsV Mt.timesL := ⟨_, rfl⟩
  have HL := Lib.hid (show N.length = 95 by rw [hN]; rfl)
  have HO := Lib.hid (show ∀ u ∈ N, u.oneCell' = true by rw [hN]; exact Mt.numsV_one _)
  rw [← hN] at C
  have HN := Lib.hid hN
  clear hN
  have hz := (zero_of_info (P := Try.prog) Mt.arr_zero).1
  obtain ⟨Z, hZ⟩ : ∃ Z : Array Value, Z = Array.replicate 95 (.int .i64 0) := ⟨_, rfl⟩
  have HZ := Lib.hid (show Z.size = 95 by rw [hZ]; simp)
  rw [← hZ] at hz
  clear hZ
  go_enter Try.func7, Try.ntmps7
  go_wp2_with fail
  (with_reducible refine (C.out _).mono ?_)
  rintro e w1 ⟨rfl, hk1⟩
  have B1 := Lib.hid (show Blk w1 w.heap.size #[.int .i64 0, .slice none 0 0, .int .i64 0] 35 from (Blk.fresh w _ _).kept hk1)
  have K1 := Lib.hid (show Kept w w1 from ((Kept.refl w).alloc _ _).trans hk1)
  clear hk1
  have e0 := B1.out.cell 0
  have e1 := B1.out.cell 1
  have e2 := B1.out.cell 2
  have ef := B1.out.free
  have el := B1.out.lt
  go_wp2_with (refine wpList_store_new' w1 (by rfl) 58 _ _ (by rfl) w1.heap.size N _ 58 (by rfl) (by rfl) rfl (by rw [HL.out]; exact Mt.arr_size) (by rw [HL.out, HZ.out]) HO.out ?_)
  refine bodyPost_ret (v := .tuple #[.agg #[.int .i64 32, .slice (some ⟨w1.heap.size, 0, none⟩) 95 95, .int .i64 500], .bool true]) ?_ rfl ⟨some ⟨w1.heap.size, 0, none⟩, 95, rfl, ?_, ?_⟩
  · simp [results, Try.results7, go_sem, e0, e1, e2, el]
  · refine NuB.of_blk (t := 58) ?_ (Below.size K1.out)
    rw [show Mt.numsV Mt.tims.ws = N from HN.out.symm]
    exact Blk.fresh' _ _ (by simp)
  · repeat (with_reducible first | exact K1.out | refine Kept.alloc ?_ _ _ | refine Kept.set ?_ (Nat.le_refl _) _)

set_option maxRecDepth 100000 in
theorem StandardF_cour (w : World) :
    Calls Try.prog 7 #[.string ⟨#[67, 111, 117, 114, 105, 101, 114]⟩] w (StdPostF w Mt.cour true) := by
  go_enter Try.func7, Try.ntmps7
  go_wp2_with fail
  refine bodyPost_ret (v := .tuple #[.agg #[.int .i64 32, .slice none 0 0, .int .i64 600], .bool true]) ?_ rfl ⟨none, 0, rfl, NuB.nil _ _ _, ?_⟩
  · simp [results, Try.results7, go_sem]
  · repeat (with_reducible first | exact Kept.refl _ | refine Kept.alloc ?_ _ _ | refine Kept.set ?_ (Nat.le_refl _) _)
set_option maxRecDepth 100000 in
theorem StandardF_none (s : ByteArray) (w : World) (h1 : (s.toList == [72, 101, 108, 118, 101, 116, 105, 99, 97]) = false) (h2 : (s.toList == [84, 105, 109, 101, 115, 45, 82, 111, 109, 97, 110]) = false) (h3 : (s.toList == [67, 111, 117, 114, 105, 101, 114]) = false) :
    Calls Try.prog 7 #[.string s] w (StdPostF w Mt.noF false) := by
  go_enter Try.func7, Try.ntmps7
  go_wp2_with fail
  refine bodyPost_ret (v := .tuple #[.agg #[.int .i64 0, .slice none 0 0, .int .i64 0], .bool false]) ?_ rfl ⟨none, 0, rfl, NuB.nil _ _ _, ?_⟩
  · simp [results, Try.results7, go_sem]
  · repeat (with_reducible first | exact Kept.refl _ | refine Kept.alloc ?_ _ _ | refine Kept.set ?_ (Nat.le_refl _) _)
/-- Standard, of any name. -/
theorem StandardF_any (s : List UInt8) (w : World) :
    Calls Try.prog 7 #[.string ⟨s.toArray⟩] w (StdPostF w (Mt.stdT s) (Mt.stdB s)) := by
  by_cases h1 : s = [72, 101, 108, 118, 101, 116, 105, 99, 97]
  · subst h1; exact StandardF_helv w
  by_cases h2 : s = [84, 105, 109, 101, 115, 45, 82, 111, 109, 97, 110]
  · subst h2; exact StandardF_times w
  by_cases h3 : s = [67, 111, 117, 114, 105, 101, 114]
  · subst h3; exact StandardF_cour w
  have e1 : Mt.stdT s = Mt.noF := by unfold Mt.stdT; rw [if_neg h1, if_neg h2, if_neg h3]
  have e2 : Mt.stdB s = false := by
    unfold Mt.stdB
    rw [beq_eq_false_iff_ne.2 h1, beq_eq_false_iff_ne.2 h2, beq_eq_false_iff_ne.2 h3]; rfl
  rw [e1, e2]
  exact StandardF_none _ w (Mt.str_ne h1) (Mt.str_ne h2) (Mt.str_ne h3)

end Go.Proofs.Ytakbhdhlcnpejaa

namespace Go.Proofs.Ytakbhdhlcnpejaa
open Go.RowKit
set_option linter.unusedSimpArgs false
set_option linter.unusedVariables false

theorem Mt.int_info : (Try.prog.info? 3).map (fun i => i.size) = some 1 := by kernel_rfl
theorem Mt.int_zero : ((Try.prog.info? 3).bind (fun i => i.zero)).isSome = true := by kernel_rfl
set_option maxRecDepth 100000 in
set_option maxHeartbeats 4000000 in
theorem Rhelv_any (w : World) :
    Calls Try.prog 20 #[] w fun e w' => ∃ p c, e = .returned (.slice p 95 c) ∧ NuB w' w.heap.size p Mt.helvL ∧ Kept w w' := by
  have HB := Lib.hid (NuB.of_blk (Blk.fresh w (Mt.numsV Mt.helvL).toArray 3) (Nat.le_refl _))
  have HE := Lib.hid (show (Mt.helvL.map Int.ofNat).map (Value.int .i64) = Mt.numsV Mt.helvL by rw [List.map_map]; rfl)
  go_enter Try.func20, Try.ntmps20
  go_upto_region 1 with fail
  refine wp_region_lit ?_
  refine wpList_buildFlat (by rfl) 33 3 95 _ (by rfl) .i64 (Mt.helvL.map Int.ofNat) Try.underlying33 Mt.int_info Mt.int_zero (by kernel_rfl) (by decide) (by decide) (by kernel_rfl) ?_
  rw [HE.out]
  go_wp2_with fail
  go_ret
  exact ⟨_, 95, rfl, HB.out, (Kept.refl w).alloc _ _⟩

set_option maxRecDepth 100000 in
set_option maxHeartbeats 4000000 in
theorem Rtimes_any (w : World) :
    Calls Try.prog 21 #[] w fun e w' => ∃ p c, e = .returned (.slice p 95 c) ∧ NuB w' w.heap.size p Mt.timesL ∧ Kept w w' := by
  have HB := Lib.hid (NuB.of_blk (Blk.fresh w (Mt.numsV Mt.timesL).toArray 3) (Nat.le_refl _))
  have HE := Lib.hid (show (Mt.timesL.map Int.ofNat).map (Value.int .i64) = Mt.numsV Mt.timesL by rw [List.map_map]; rfl)
  go_enter Try.func21, Try.ntmps21
  go_upto_region 1 with fail
  refine wp_region_lit ?_
  refine wpList_buildFlat (by rfl) 33 3 95 _ (by rfl) .i64 (Mt.timesL.map Int.ofNat) Try.underlying33 Mt.int_info Mt.int_zero (by kernel_rfl) (by decide) (by decide) (by kernel_rfl) ?_
  rw [HE.out]
  go_wp2_with fail
  go_ret
  exact ⟨_, 95, rfl, HB.out, (Kept.refl w).alloc _ _⟩

set_option maxRecDepth 100000 in
theorem RStandard_helv (w : World) :
    Calls Try.prog 8 #[.string ⟨#[72, 101, 108, 118, 101, 116, 105, 99, 97]⟩] w (StdPostF w Mt.helv true) := by
  have C := Lib.hid (fun wx => Rhelv_any wx)
  go_enter Try.func8, Try.ntmps8
  go_wp2_with fail
  (with_reducible refine (C.out _).mono ?_)
  rintro e w1 ⟨q, cq, rfl, hn1, hk1⟩
  have B1 := Lib.hid (show Blk w1 w.heap.size #[.int .i64 0, .slice none 0 0, .int .i64 0] 38 from (Blk.fresh w _ _).kept hk1)
  have K1 := Lib.hid (show Kept w w1 from ((Kept.refl w).alloc _ _).trans hk1)
  have N1 := Lib.hid (NuB.mono hn1 (show w.heap.size + 1 ≤ _ by simp))
  clear hk1 hn1
  have e0 := B1.out.cell 0
  have e1 := B1.out.cell 1
  have e2 := B1.out.cell 2
  have ef := B1.out.free
  have el := B1.out.lt
  go_wp2_with fail
  refine bodyPost_ret (v := .tuple #[.agg #[.int .i64 32, .slice q 95 cq, .int .i64 556], .bool true]) ?_ rfl ⟨q, cq, rfl, ?_, ?_⟩
  · simp [results, Try.results8, go_sem, e0, e1, e2, el]
  · refine NuB.mono (B := w.heap.size + 1) ?_ (Nat.le_succ _)
    change NuB _ _ q Mt.helvL
    repeat (with_reducible first | exact N1.out | refine NuB.set ?_ (Nat.lt_succ_self _) _ _)
  · repeat (with_reducible first | exact K1.out | refine Kept.alloc ?_ _ _ | refine Kept.set ?_ (Nat.le_refl _) _)

set_option maxRecDepth 100000 in
theorem RStandard_times (w : World) :
    Calls Try.prog 8 #[.string ⟨#[84, 105, 109, 101, 115, 45, 82, 111, 109, 97, 110]⟩] w (StdPostF w Mt.tims true) := by
  have C := Lib.hid (fun wx => Rtimes_any wx)
  go_enter Try.func8, Try.ntmps8
  go_wp2_with fail
  (with_reducible refine (C.out _).mono ?_)
  rintro e w1 ⟨q, cq, rfl, hn1, hk1⟩
  have B1 := Lib.hid (show Blk w1 w.heap.size #[.int .i64 0, .slice none 0 0, .int .i64 0] 38 from (Blk.fresh w _ _).kept hk1)
  have K1 := Lib.hid (show Kept w w1 from ((Kept.refl w).alloc _ _).trans hk1)
  have N1 := Lib.hid (NuB.mono hn1 (show w.heap.size + 1 ≤ _ by simp))
  clear hk1 hn1
  have e0 := B1.out.cell 0
  have e1 := B1.out.cell 1
  have e2 := B1.out.cell 2
  have ef := B1.out.free
  have el := B1.out.lt
  go_wp2_with fail
  refine bodyPost_ret (v := .tuple #[.agg #[.int .i64 32, .slice q 95 cq, .int .i64 500], .bool true]) ?_ rfl ⟨q, cq, rfl, ?_, ?_⟩
  · simp [results, Try.results8, go_sem, e0, e1, e2, el]
  · refine NuB.mono (B := w.heap.size + 1) ?_ (Nat.le_succ _)
    change NuB _ _ q Mt.timesL
    repeat (with_reducible first | exact N1.out | refine NuB.set ?_ (Nat.lt_succ_self _) _ _)
  · repeat (with_reducible first | exact K1.out | refine Kept.alloc ?_ _ _ | refine Kept.set ?_ (Nat.le_refl _) _)

set_option maxRecDepth 100000 in
theorem RStandard_cour (w : World) :
    Calls Try.prog 8 #[.string ⟨#[67, 111, 117, 114, 105, 101, 114]⟩] w (StdPostF w Mt.cour true) := by
  go_enter Try.func8, Try.ntmps8
  go_wp2_with fail
  refine bodyPost_ret (v := .tuple #[.agg #[.int .i64 32, .slice none 0 0, .int .i64 600], .bool true]) ?_ rfl ⟨none, 0, rfl, NuB.nil _ _ _, ?_⟩
  · simp [results, Try.results8, go_sem]
  · repeat (with_reducible first | exact Kept.refl _ | refine Kept.alloc ?_ _ _ | refine Kept.set ?_ (Nat.le_refl _) _)
set_option maxRecDepth 100000 in
theorem RStandard_none (s : ByteArray) (w : World) (h1 : (s.toList == [72, 101, 108, 118, 101, 116, 105, 99, 97]) = false) (h2 : (s.toList == [84, 105, 109, 101, 115, 45, 82, 111, 109, 97, 110]) = false) (h3 : (s.toList == [67, 111, 117, 114, 105, 101, 114]) = false) :
    Calls Try.prog 8 #[.string s] w (StdPostF w Mt.noF false) := by
  go_enter Try.func8, Try.ntmps8
  go_wp2_with fail
  refine bodyPost_ret (v := .tuple #[.agg #[.int .i64 0, .slice none 0 0, .int .i64 0], .bool false]) ?_ rfl ⟨none, 0, rfl, NuB.nil _ _ _, ?_⟩
  · simp [results, Try.results8, go_sem]
  · repeat (with_reducible first | exact Kept.refl _ | refine Kept.alloc ?_ _ _ | refine Kept.set ?_ (Nat.le_refl _) _)
/-- Standard, of any name. -/
theorem RStandard_any (s : List UInt8) (w : World) :
    Calls Try.prog 8 #[.string ⟨s.toArray⟩] w (StdPostF w (Mt.stdT s) (Mt.stdB s)) := by
  by_cases h1 : s = [72, 101, 108, 118, 101, 116, 105, 99, 97]
  · subst h1; exact RStandard_helv w
  by_cases h2 : s = [84, 105, 109, 101, 115, 45, 82, 111, 109, 97, 110]
  · subst h2; exact RStandard_times w
  by_cases h3 : s = [67, 111, 117, 114, 105, 101, 114]
  · subst h3; exact RStandard_cour w
  have e1 : Mt.stdT s = Mt.noF := by unfold Mt.stdT; rw [if_neg h1, if_neg h2, if_neg h3]
  have e2 : Mt.stdB s = false := by
    unfold Mt.stdB
    rw [beq_eq_false_iff_ne.2 h1, beq_eq_false_iff_ne.2 h2, beq_eq_false_iff_ne.2 h3]; rfl
  rw [e1, e2]
  exact RStandard_none _ w (Mt.str_ne h1) (Mt.str_ne h2) (Mt.str_ne h3)

end Go.Proofs.Ytakbhdhlcnpejaa

namespace Go.Proofs.Ytakbhdhlcnpejaa
open Go.RowKit
set_option linter.unusedSimpArgs false
set_option linter.unusedVariables false

set_option maxRecDepth 100000 in
theorem theirs13_any (f : Int) (p : Option Addr) (n c : Nat) (o : Int) (w : World) :
    Calls Try.prog 13 #[.agg #[.int .i64 f, .slice p n c, .int .i64 o]] w fun e w' => e = .returned (.agg #[.int .i64 f, .slice p n c, .int .i64 o]) ∧ Kept w w' := by
  go_enter Try.func13, Try.ntmps13
  go_wp2_with fail
  refine bodyPost_ret (v := .agg #[.int .i64 f, .slice p n c, .int .i64 o]) ?_ rfl ⟨rfl, ?_⟩
  · simp [results, Try.results13, go_sem]
  · repeat (with_reducible first | exact Kept.refl _ | refine Kept.alloc ?_ _ _ | refine Kept.set ?_ (by omega) _)

set_option maxRecDepth 100000 in
set_option maxHeartbeats 4000000 in
theorem same13_any (t : Mt.Fo) (p : Option Addr) (c : Nat) (p2 : Option Addr) (c2 : Nat) (w : World) (h : NuR w w.heap.size p t.ws) (h2 : NuR w w.heap.size p2 t.ws) (hl : t.ws.length ≤ 4294967296) :
    Calls Try.prog 12 #[Mt.fontV t p c, Mt.fontV t p2 c2] w fun e w' => e = .returned (.bool true) ∧ Kept w w' := by
  obtain ⟨f, ws, o⟩ := t
  unfold Mt.fontV
  simp only [] at h h2 hl ⊢
  have HP := Lib.hid h
  have HP2 := Lib.hid h2
  have HL := Lib.hid hl
  clear h h2
  have i1 : ((f : Int) != (f : Int)) = false := by simp
  have i2 : ((o : Int) != (o : Int)) = false := by simp
  have i3 : ((ws.length : Int) != (ws.length : Int)) = false := by simp
  have k1 := (Kept.refl w).alloc #[.int .i64 f, .slice p ws.length c, .int .i64 o] 38
  have b1 := (Blk.fresh w #[.int .i64 f, .slice p ws.length c, .int .i64 o] 38).alloc (.cells #[.int .i64 f, .slice p2 ws.length c2, .int .i64 o] 38)
  have b2 := Blk.fresh' (w := w.alloc (.cells #[.int .i64 f, .slice p ws.length c, .int .i64 o] 38)) (b := w.heap.size + 1) #[.int .i64 f, .slice p2 ws.length c2, .int .i64 o] 38 (by simp)
  have k2 := k1.alloc #[.int .i64 f, .slice p2 ws.length c2, .int .i64 o] 38
  have B1 := Lib.hid b1
  have B2 := Lib.hid b2
  have K2 := Lib.hid k2
  clear k1 b1 b2 k2
  go_enter Try.func12, Try.ntmps12
  go_wp2_with fail
  go_loopg [5] (ws.length) (fun m x wr => ∃ j : Nat, m = ws.length - j ∧ j ≤ ws.length ∧ x = .int .i64 j ∧ Kept w wr ∧ Blk wr w.heap.size #[.int .i64 f, .slice p ws.length c, .int .i64 o] 38 ∧ Blk wr (w.heap.size + 1) #[.int .i64 f, .slice p2 ws.length c2, .int .i64 o] 38)
  case atStart => exact ⟨0, by omega, Nat.zero_le _, rfl, K2.out, B1.out, B2.out⟩
  case round =>
    obtain ⟨j, hm, hj, rfl, hk, hb1, hb2⟩ := hrel
    have HK := Lib.hid hk
    have C1 := Lib.hid hb1
    have C2 := Lib.hid hb2
    have e0 := hb1.cell 0
    have e1 := hb1.cell 1
    have e2 := hb1.cell 2
    have d0 := hb2.cell 0
    have d1 := hb2.cell 1
    have d2 := hb2.cell 2
    by_cases hlt : j < ws.length
    · have j1 : (j : Int) < (ws.length : Int) := by omega
      have j0 : (0 : Int) ≤ (j : Int) := by omega
      obtain ⟨ka, oa, rfl, hka, hca⟩ := HP.out.keep (Nat.le_refl _) HK.out j hlt
      obtain ⟨kb, ob, rfl, hkb, hcb⟩ := HP2.out.keep (Nat.le_refl _) HK.out j hlt
      obtain ⟨n, hn⟩ : ∃ n, n = ws[j] := ⟨_, rfl⟩
      rw [← hn] at hca hcb
      have i4 : ((n : Int) != (n : Int)) = false := by simp
      clear hb1 hb2 hk hn hka hkb
      go_wp2_with fail
      go_region_held3 (fun w' => w'.cell? ⟨w.heap.size, 1, none⟩ = some (.slice (some ⟨ka, oa, none⟩) ws.length c) ∧ w'.cell? ⟨w.heap.size + 1, 1, none⟩ = some (.slice (some ⟨kb, ob, none⟩) ws.length c2) ∧ w'.cell? ⟨ka, oa + j, none⟩ = some (.int .i64 n) ∧ w'.cell? ⟨kb, ob + j, none⟩ = some (.int .i64 n)) (go_keep) (fail)
      all_goals
        go_wp2_with fail
        go_roundg (ws.length - (j + 1))
        case measure => omega
        case rel => exact ⟨j + 1, rfl, by omega, by go_num, by (repeat (with_reducible first | exact HK.out | refine Kept.drew ?_ | refine Kept.drewN ?_ _)), C1.out, C2.out⟩
    · obtain rfl : j = ws.length := by omega
      clear hb1 hb2 hk
      go_wp2_with fail
      go_ret
      exact ⟨rfl, HK.out⟩

end Go.Proofs.Ytakbhdhlcnpejaa
