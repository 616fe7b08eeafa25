/-
  Package metric's texts as functions on lists: characters of a text, the text of characters, pairs of bytes; that what is written is read as it was. Nothing of the program is named here.
-/
import Derived.Lib.TrimUEq
import Derived.Lib.QuoteLoop
import Derived.Lib.RuneBytes
import Derived.KernelRfl
namespace Go.Proofs.Ytkgaddlclfjkmaa.Mt
open Go.Lib (decodeL decodeN encodeRune encodeRuneZ)

theorem u8_lit (n : Nat) (h : n < 256) : (n.toUInt8).toNat = n := by
  simp; omega
theorem u8_ext {a b : UInt8} (h : a.toNat = b.toNat) : a = b := UInt8.toNat_inj.1 h

/-- A list, taken apart step by step: what stands at its head, and how long that is. -/
def unfGo (f : List UInt8 → Nat × Nat) : Nat → List UInt8 → List Nat
  | 0, _ => []
  | n + 1, l => if l = [] then [] else (f l).1 :: unfGo f n (l.drop (f l).2)
def unf (f : List UInt8 → Nat × Nat) (l : List UInt8) : List Nat := unfGo f l.length l

theorem unfGo_fuel (f : List UInt8 → Nat × Nat) (hf : ∀ l, l ≠ [] → 1 ≤ (f l).2) : ∀ (n m : Nat) (l : List UInt8), l.length ≤ n → l.length ≤ m → unfGo f n l = unfGo f m l
  | 0, 0, _, _, _ => rfl
  | 0, m + 1, l, h, _ => by
    have : l = [] := List.length_eq_zero_iff.1 (by omega)
    simp [unfGo, this]
  | n + 1, 0, l, _, h => by
    have : l = [] := List.length_eq_zero_iff.1 (by omega)
    simp [unfGo, this]
  | n + 1, m + 1, l, hn, hm => by
    by_cases he : l = []
    · simp [unfGo, he]
    · have h1 := hf l he
      have hl : 0 < l.length := List.length_pos_iff.2 he
      simp only [unfGo, if_neg he]
      rw [unfGo_fuel f hf n m (l.drop (f l).2) (by rw [List.length_drop]; omega) (by rw [List.length_drop]; omega)]

theorem unf_nil (f : List UInt8 → Nat × Nat) : unf f [] = [] := rfl
theorem unf_cons (f : List UInt8 → Nat × Nat) (hf : ∀ l, l ≠ [] → 1 ≤ (f l).2) (l : List UInt8) (h : l ≠ []) : unf f l = (f l).1 :: unf f (l.drop (f l).2) := by
  have h1 := hf l h
  have hl : 0 < l.length := List.length_pos_iff.2 h
  unfold unf
  obtain ⟨n, hn⟩ : ∃ n, l.length = n + 1 := ⟨l.length - 1, by omega⟩
  rw [hn]
  simp only [unfGo, if_neg h]
  rw [unfGo_fuel f hf n _ (l.drop (f l).2) (by rw [List.length_drop]; omega) (Nat.le_refl _)]
theorem unf_len (f : List UInt8 → Nat × Nat) : ∀ (n : Nat) (l : List UInt8), (unfGo f n l).length ≤ n
  | 0, _ => Nat.le_refl _
  | n + 1, l => by
    have := unf_len f n (l.drop (f l).2)
    unfold unfGo; split <;> simp; omega
theorem unf_length (f : List UInt8 → Nat × Nat) (l : List UInt8) : (unf f l).length ≤ l.length := unf_len f _ l

/-! ### characters -/
def okR (r : Nat) : Prop := r < 55296 ∨ (57343 < r ∧ r ≤ 1114111)
theorem okR_err : okR 65533 := by unfold okR; omega

theorem decodeL_pos (l : List UInt8) (_ : l ≠ []) : 1 ≤ (decodeL l).2 := by
  rw [Lib.decodeL_N]; exact Lib.decodeN_ge1 _ _ _ _ _
theorem decodeL_ok (l : List UInt8) : okR (decodeL l).1 := by
  rw [Lib.decodeL_N]; exact Lib.decodeN_valid _ _ _ _ _ (UInt8.toNat_lt _)
theorem decodeL_le (l : List UInt8) (h : l ≠ []) : (decodeL l).2 ≤ l.length := by
  rw [Lib.decodeL_N]; exact Lib.decodeN_width_le _ _ _ _ _ (List.length_pos_iff.2 h)

/-- The characters of a text. -/
def runes (l : List UInt8) : List Nat := unf decodeL l
theorem runes_nil : runes [] = [] := rfl
theorem runes_cons (l : List UInt8) (h : l ≠ []) : runes l = (decodeL l).1 :: runes (l.drop (decodeL l).2) := unf_cons _ decodeL_pos l h

theorem unfGo_all (f : List UInt8 → Nat × Nat) (p : Nat → Prop) (hp : ∀ l, l ≠ [] → p (f l).1) : ∀ (n : Nat) (l : List UInt8), ∀ r ∈ unfGo f n l, p r
  | 0, _, r, h => by simp [unfGo] at h
  | n + 1, l, r, h => by
    unfold unfGo at h
    split at h
    · simp at h
    · rename_i he
      rcases List.mem_cons.1 h with rfl | h
      · exact hp l he
      · exact unfGo_all f p hp n _ r h
theorem runes_ok (l : List UInt8) : ∀ r ∈ runes l, okR r := unfGo_all _ okR (fun l _ => decodeL_ok l) _ l
theorem runes_len (l : List UInt8) : (runes l).length ≤ l.length := unf_length _ l

/-- The text of characters. -/
def enc : List Nat → List UInt8
  | [] => []
  | r :: l => encodeRune (r : Int) ++ enc l
theorem enc_append : ∀ a b : List Nat, enc (a ++ b) = enc a ++ enc b
  | [], _ => rfl
  | r :: a, b => by simp [enc, enc_append a b]
theorem encR_len (r : Int) : 1 ≤ (encodeRune r).length ∧ (encodeRune r).length ≤ 4 := by
  have := Lib.encodeRuneZ_length r
  simpa [encodeRune] using this
theorem enc_len : ∀ a : List Nat, a.length ≤ (enc a).length ∧ (enc a).length ≤ 4 * a.length
  | [] => ⟨Nat.le_refl _, Nat.le_refl _⟩
  | r :: a => by
    have := enc_len a
    have := encR_len (r : Int)
    simp [enc]; omega

set_option maxRecDepth 100000 in
set_option maxHeartbeats 4000000 in
theorem decode_enc (r : Nat) (h : okR r) (t : List UInt8) : decodeL (encodeRune (r : Int) ++ t) = (r, (encodeRune (r : Int)).length) := by
  unfold okR at h
  by_cases h1 : r ≤ 127
  · have e : encodeRune (r : Int) = [r.toUInt8] := by simp [encodeRune, Lib.encodeRuneZ_one (r := (r : Int)) (by omega) (by omega)]
    rw [e, Lib.decodeL_N]
    simp only [List.cons_append, List.nil_append, List.getD_cons_zero, List.length_cons, List.length_nil]
    rw [u8_lit r (by omega), Lib.decodeN_ascii _ _ _ _ _ (by omega)]
  by_cases h2 : r ≤ 2047
  · have e : encodeRune (r : Int) = [(192 + r / 64).toUInt8, (128 + r % 64).toUInt8] := by
      simp only [encodeRune, Lib.encodeRuneZ_two (r := (r : Int)) (by omega) (by omega), List.map_cons, List.map_nil]
      rfl
    rw [e, Lib.decodeL_N]
    simp only [List.cons_append, List.nil_append, List.getD_cons_zero, List.getD_cons_succ, List.length_cons, List.length_nil]
    rw [u8_lit _ (by omega), u8_lit _ (by omega)]
    unfold decodeN
    repeat' split
    all_goals first | (exfalso; omega) | (apply Prod.ext <;> simp only <;> omega)
  by_cases h3 : r ≤ 65535
  · have e : encodeRune (r : Int) = [(224 + r / 4096).toUInt8, (128 + r / 64 % 64).toUInt8, (128 + r % 64).toUInt8] := by
      simp only [encodeRune, Lib.encodeRuneZ_three (r := (r : Int)) (by omega), List.map_cons, List.map_nil]
      rfl
    rw [e, Lib.decodeL_N]
    simp only [List.cons_append, List.nil_append, List.getD_cons_zero, List.getD_cons_succ, List.length_cons, List.length_nil]
    rw [u8_lit _ (by omega), u8_lit _ (by omega), u8_lit _ (by omega)]
    unfold decodeN
    repeat' split
    all_goals first | (exfalso; omega) | (apply Prod.ext <;> simp only <;> omega)
  · have e : encodeRune (r : Int) = [(240 + r / 262144).toUInt8, (128 + r / 4096 % 64).toUInt8, (128 + r / 64 % 64).toUInt8, (128 + r % 64).toUInt8] := by
      simp only [encodeRune, Lib.encodeRuneZ_four (r := (r : Int)) (by omega) (by omega), List.map_cons, List.map_nil]
      rfl
    rw [e, Lib.decodeL_N]
    simp only [List.cons_append, List.nil_append, List.getD_cons_zero, List.getD_cons_succ, List.length_cons, List.length_nil]
    rw [u8_lit _ (by omega), u8_lit _ (by omega), u8_lit _ (by omega), u8_lit _ (by omega)]
    unfold decodeN
    repeat' split
    all_goals first | (exfalso; omega) | (apply Prod.ext <;> simp only <;> omega)

theorem encR_ne (r : Int) (t : List UInt8) : encodeRune r ++ t ≠ [] := by
  have h1 := (encR_len r).1
  intro h
  have h2 := congrArg List.length h
  rw [List.length_append, List.length_nil] at h2; omega
theorem runes_enc : ∀ l : List Nat, (∀ r ∈ l, okR r) → runes (enc l) = l
  | [], _ => rfl
  | r :: l, h => by
    have h0 := h r List.mem_cons_self
    have d := decode_enc r h0 (enc l)
    show runes (encodeRune (r : Int) ++ enc l) = _
    rw [runes_cons _ (encR_ne _ _), d, List.drop_left, runes_enc l fun x hx => h x (List.mem_cons_of_mem _ hx)]

/-! ### bytes that stand alone -/
def alone (r : Nat) : Bool := r == 9 || r == 10 || r == 13 || (decide (32 ≤ r) && decide (r ≤ 126)) || (decide (161 ≤ r) && decide (r ≤ 255) && r != 173)
theorem alone_lt {r : Nat} (h : alone r = true) : r < 256 := by
  unfold alone at h
  simp at h; omega
def asBytes (l : List Nat) : List UInt8 := l.map fun r => r.toUInt8
theorem asBytes_back : ∀ l : List Nat, (∀ r ∈ l, r < 256) → (asBytes l).map (fun b : UInt8 => b.toNat) = l
  | [], _ => rfl
  | r :: l, h => by
    simp only [asBytes, List.map_cons, List.cons.injEq]
    exact ⟨u8_lit r (h r List.mem_cons_self), asBytes_back l fun x hx => h x (List.mem_cons_of_mem _ hx)⟩

/-- What Bytes answers. -/
def bytesB (u : List UInt8) : Bool := (runes u).all alone
def bytesV (u : List UInt8) : List UInt8 := if bytesB u then asBytes (runes u) else []

/-! ### pairs -/
def marked : List UInt8 → Bool
  | a :: b :: _ => a == 254 && b == 255
  | _ => false
def pair (r : Nat) : List UInt8 := [(r / 256).toUInt8, (r % 256).toUInt8]
def pairs1 (r : Nat) : List UInt8 := if r ≤ 65535 then pair r else pair (55296 + (r - 65536) / 1024) ++ pair (56320 + (r - 65536) % 1024)
def pairs : List Nat → List UInt8
  | [] => []
  | r :: l => pairs1 r ++ pairs l
theorem pairs_append : ∀ a b : List Nat, pairs (a ++ b) = pairs a ++ pairs b
  | [], _ => rfl
  | r :: a, b => by simp [pairs, pairs_append a b]
theorem pairs1_len (r : Nat) : 2 ≤ (pairs1 r).length ∧ (pairs1 r).length ≤ 4 := by
  unfold pairs1; split <;> simp [pair]
theorem pairs_len : ∀ l : List Nat, (pairs l).length ≤ 4 * l.length
  | [] => Nat.le_refl _
  | r :: l => by
    have := pairs_len l; have := pairs1_len r
    simp [pairs]; omega
theorem pairs_small : ∀ l : List Nat, (∀ r ∈ l, r ≤ 65535) → (pairs l).length = 2 * l.length
  | [], _ => rfl
  | r :: l, h => by
    have := pairs_small l fun x hx => h x (List.mem_cons_of_mem _ hx)
    have h0 := h r List.mem_cons_self
    simp [pairs, pairs1, h0, pair]; omega

/-- What Encode answers. -/
def encodeV (u : List UInt8) : List UInt8 := if bytesB u && !marked (bytesV u) then bytesV u else 254 :: 255 :: pairs (runes u)

/-- The number of a text's first two bytes. -/
def num2 (a b : UInt8) : Nat := a.toNat * 256 + b.toNat
/-- The character with which pairs begin, and of how many bytes it is. -/
def fstC : List UInt8 → Nat × Nat
  | [] => (65533, 0)
  | [_] => (65533, 1)
  | a :: b :: t =>
    if num2 a b < 55296 ∨ 57343 < num2 a b then (num2 a b, 2)
    else if num2 a b < 56320 then
      match t with
      | c :: d :: _ => if 56320 ≤ num2 c d ∧ num2 c d ≤ 57343 then (65536 + (num2 a b - 55296) * 1024 + (num2 c d - 56320), 4) else (65533, 2)
      | _ => (65533, 2)
    else (65533, 2)
theorem fstC_pos (l : List UInt8) (h : l ≠ []) : 1 ≤ (fstC l).2 := by
  match l, h with
  | [_], _ => exact Nat.le_refl _
  | [a, b], _ =>
    simp only [fstC]
    repeat' split
    all_goals simp
  | [a, b, c], _ =>
    simp only [fstC]
    repeat' split
    all_goals simp
  | a :: b :: c :: d :: t, _ =>
    simp only [fstC]
    repeat' split
    all_goals simp
theorem fstC_le (l : List UInt8) : (fstC l).2 ≤ l.length := by
  match l with
  | [] => exact Nat.le_refl _
  | [_] => exact Nat.le_refl _
  | [a, b] =>
    simp only [fstC]
    repeat' split
    all_goals simp
  | [a, b, c] =>
    simp only [fstC]
    repeat' split
    all_goals simp
  | a :: b :: c :: d :: t =>
    simp only [fstC]
    repeat' split
    all_goals simp
theorem num2_lt (a b : UInt8) : num2 a b ≤ 65535 := by
  have := a.toNat_lt; have := b.toNat_lt
  unfold num2; omega
theorem fstC_ok (l : List UInt8) : okR (fstC l).1 := by
  match l with
  | [] => exact okR_err
  | [_] => exact okR_err
  | [a, b] =>
    have := num2_lt a b
    simp only [fstC, okR]
    repeat' split
    all_goals omega
  | [a, b, c] =>
    have := num2_lt a b
    simp only [fstC, okR]
    repeat' split
    all_goals omega
  | a :: b :: c :: d :: t =>
    have := num2_lt a b; have := num2_lt c d
    simp only [fstC, okR]
    repeat' split
    all_goals omega

def unpair (l : List UInt8) : List Nat := unf fstC l
theorem unpair_nil : unpair [] = [] := rfl
theorem unpair_cons (l : List UInt8) (h : l ≠ []) : unpair l = (fstC l).1 :: unpair (l.drop (fstC l).2) := unf_cons _ fstC_pos l h
theorem unpair_ok (l : List UInt8) : ∀ r ∈ unpair l, okR r := unfGo_all _ okR (fun l _ => fstC_ok l) _ l
theorem unpair_len (l : List UInt8) : (unpair l).length ≤ l.length := unf_length _ l

theorem num2_pair (r : Nat) (h : r ≤ 65535) : num2 (r / 256).toUInt8 (r % 256).toUInt8 = r := by
  unfold num2
  rw [u8_lit _ (by omega), u8_lit _ (by omega)]; omega
theorem fstC_pairs1 (r : Nat) (h : okR r) (t : List UInt8) : fstC (pairs1 r ++ t) = (r, (pairs1 r).length) := by
  unfold okR at h
  unfold pairs1
  split
  · rename_i hr
    simp only [pair, List.cons_append, List.nil_append, fstC, num2_pair r hr]
    rw [if_pos (by omega)]; rfl
  · rename_i hr
    have a1 : (r - 65536) / 1024 < 1024 := by omega
    have a2 : (r - 65536) % 1024 < 1024 := by omega
    simp only [pair, List.cons_append, List.nil_append, fstC, num2_pair _ (show 55296 + (r - 65536) / 1024 ≤ 65535 by omega), num2_pair _ (show 56320 + (r - 65536) % 1024 ≤ 65535 by omega)]
    rw [if_neg (by omega), if_pos (by omega), if_pos (by omega)]
    apply Prod.ext
    · show 65536 + (55296 + (r - 65536) / 1024 - 55296) * 1024 + (56320 + (r - 65536) % 1024 - 56320) = r
      omega
    · rfl
theorem pairs1_ne (r : Nat) (t : List UInt8) : pairs1 r ++ t ≠ [] := by
  have h1 := (pairs1_len r).1
  intro h
  have h2 := congrArg List.length h
  rw [List.length_append, List.length_nil] at h2; omega
theorem unpair_pairs : ∀ l : List Nat, (∀ r ∈ l, okR r) → unpair (pairs l) = l
  | [], _ => rfl
  | r :: l, h => by
    have h0 := h r List.mem_cons_self
    have d := fstC_pairs1 r h0 (pairs l)
    show unpair (pairs1 r ++ pairs l) = _
    rw [unpair_cons _ (pairs1_ne _ _), d, List.drop_left, unpair_pairs l fun x hx => h x (List.mem_cons_of_mem _ hx)]

/-- A byte's character. -/
def char1 (b : UInt8) : Nat := if alone b.toNat then b.toNat else 65533
theorem char1_ok (b : UInt8) : okR (char1 b) := by
  have := b.toNat_lt
  unfold char1 okR; split <;> omega
/-- The characters of a text string. -/
def chars (s : List UInt8) : List Nat := if marked s then unpair (s.drop 2) else s.map char1
theorem chars_ok (s : List UInt8) : ∀ r ∈ chars s, okR r := by
  unfold chars
  split
  · exact unpair_ok _
  · intro r hr
    obtain ⟨b, -, rfl⟩ := List.mem_map.1 hr
    exact char1_ok b
theorem chars_len (s : List UInt8) : (chars s).length ≤ s.length := by
  unfold chars
  split
  · have := unpair_len (s.drop 2)
    rw [List.length_drop] at this; omega
  · simp
/-- What Decode answers. -/
def decodeV (s : List UInt8) : List UInt8 := enc (chars s)

theorem char1_back (r : Nat) (h : alone r = true) : char1 r.toUInt8 = r := by
  unfold char1
  rw [u8_lit r (alone_lt h), h]; rfl
theorem chars_back : ∀ l : List Nat, (∀ r ∈ l, alone r = true) → (asBytes l).map char1 = l
  | [], _ => rfl
  | r :: l, h => by
    simp only [asBytes, List.map_cons, List.cons.injEq]
    exact ⟨char1_back r (h r List.mem_cons_self), chars_back l fun x hx => h x (List.mem_cons_of_mem _ hx)⟩

/-- What is encoded is decoded to what it was. -/
theorem back_enc (L : List Nat) (h : ∀ r ∈ L, okR r) : decodeV (encodeV (enc L)) = enc L := by
  have hr := runes_enc L h
  unfold encodeV
  by_cases hc : (bytesB (enc L) && !marked (bytesV (enc L))) = true
  · rw [if_pos hc]
    simp only [Bool.and_eq_true, Bool.not_eq_true'] at hc
    have hb : bytesV (enc L) = asBytes L := by simp [bytesV, hc.1, hr]
    have ha : ∀ r ∈ L, alone r = true := by
      have := hc.1
      unfold bytesB at this
      rw [hr] at this
      exact List.all_eq_true.1 this
    unfold decodeV chars
    rw [hc.2, hb]
    simp only [Bool.false_eq_true, if_false]
    rw [chars_back L ha]
  · rw [if_neg hc, hr]
    unfold decodeV chars
    have : marked (254 :: 255 :: pairs L) = true := rfl
    rw [this, if_pos rfl]
    show enc (unpair (pairs L)) = _
    rw [unpair_pairs L h]
theorem back_any (s : List UInt8) : decodeV (encodeV (decodeV s)) = decodeV s := back_enc _ (chars_ok s)
/-- A text that is bytes. -/
theorem bytes_any (s : List UInt8) (hb : bytesB (decodeV s) = true) (hm : marked (bytesV (decodeV s)) = false) :
    decodeV (bytesV (decodeV s)) = decodeV s ∧ encodeV (decodeV s) = bytesV (decodeV s) := by
  have he : encodeV (decodeV s) = bytesV (decodeV s) := by
    unfold encodeV
    rw [hb, hm]; rfl
  exact ⟨by rw [← he]; exact back_any s, he⟩

/-! ### bytes of ASCII -/
def plain (b : UInt8) : Bool := decide (32 ≤ b.toNat) && decide (b.toNat ≤ 126)
theorem plain_alone {b : UInt8} (h : plain b = true) : alone b.toNat = true := by
  unfold plain at h; unfold alone
  simp at h
  have h1 : decide (32 ≤ b.toNat) = true := by simpa using h.1
  have h2 : decide (b.toNat ≤ 126) = true := by simpa using h.2
  rw [h1, h2]; simp
def nums (s : List UInt8) : List Nat := s.map fun b => b.toNat
theorem nums_back : ∀ s : List UInt8, asBytes (nums s) = s
  | [] => rfl
  | b :: s => by
    have := nums_back s
    simp only [nums, asBytes, List.map_cons, List.cons.injEq] at *
    exact ⟨u8_ext (by rw [u8_lit _ b.toNat_lt]), this⟩
theorem enc_ascii : ∀ s : List UInt8, (∀ b ∈ s, plain b = true) → enc (nums s) = s
  | [], _ => rfl
  | b :: s, h => by
    have h0 := h b List.mem_cons_self
    unfold plain at h0
    simp at h0
    have e : encodeRune (b.toNat : Int) = [b] := by
      simp only [encodeRune, Lib.encodeRuneZ_one (r := (b.toNat : Int)) (by omega) (by omega), List.map_cons, List.map_nil, List.cons.injEq, and_true]
      exact u8_ext (by show (b.toNat.toUInt8).toNat = _; rw [u8_lit _ b.toNat_lt])
    show encodeRune (b.toNat : Int) ++ enc (nums s) = _
    rw [e, enc_ascii s fun x hx => h x (List.mem_cons_of_mem _ hx)]; rfl
theorem nums_ok (s : List UInt8) : ∀ r ∈ nums s, okR r := by
  intro r hr
  obtain ⟨b, -, rfl⟩ := List.mem_map.1 hr
  have := b.toNat_lt
  unfold okR; omega
theorem nums_alone (s : List UInt8) (h : ∀ b ∈ s, plain b = true) : ∀ r ∈ nums s, alone r = true := by
  intro r hr
  obtain ⟨b, hb, rfl⟩ := List.mem_map.1 hr
  exact plain_alone (h b hb)
theorem plain_marked (s : List UInt8) (h : ∀ b ∈ s, plain b = true) : marked s = false := by
  match s, h with
  | [], _ => rfl
  | [_], _ => rfl
  | a :: b :: t, h =>
    have h0 := h a List.mem_cons_self
    unfold marked
    have : a ≠ 254 := by
      intro e; rw [e] at h0; exact absurd h0 (by decide)
    simp [this]
theorem plain_runes (s : List UInt8) (h : ∀ b ∈ s, plain b = true) : runes s = nums s := by
  conv => lhs; rw [← enc_ascii s h]
  exact runes_enc _ (nums_ok s)
/-- Printed bytes are themselves, in every way. -/
theorem plain_all (s : List UInt8) (h : ∀ b ∈ s, plain b = true) : decodeV s = s ∧ encodeV s = s ∧ bytesB s = true ∧ bytesV s = s := by
  have hr := plain_runes s h
  have hb : bytesB s = true := by
    unfold bytesB; rw [hr]; exact List.all_eq_true.2 (nums_alone s h)
  have hv : bytesV s = s := by
    unfold bytesV; rw [hb, if_pos rfl, hr, nums_back]
  have hm := plain_marked s h
  refine ⟨?_, ?_, hb, hv⟩
  · unfold decodeV chars
    rw [hm]
    simp only [Bool.false_eq_true, if_false]
    have : s.map char1 = nums s := by
      refine List.map_congr_left fun b hb => ?_
      unfold char1; rw [plain_alone (h b hb)]; rfl
    rw [this, enc_ascii s h]
  · unfold encodeV
    rw [hb, hv, hm]; rfl
/-- A character beyond 255 behind them. -/
theorem plain_more (s : List UInt8) (h : ∀ b ∈ s, plain b = true) (q : Nat) (h0 : 256 ≤ q) (h1 : q ≤ 4351) :
    bytesB (s ++ encodeRune (q : Int)) = false ∧ (encodeV (s ++ encodeRune (q : Int))).length = 2 * s.length + 4 ∧ decodeV (encodeV (s ++ encodeRune (q : Int))) = s ++ encodeRune (q : Int) := by
  have he : s ++ encodeRune (q : Int) = enc (nums s ++ [q]) := by
    rw [enc_append, enc_ascii s h]; simp [enc]
  have hok : ∀ r ∈ nums s ++ [q], okR r := by
    intro r hr
    rcases List.mem_append.1 hr with hr | hr
    · exact nums_ok s r hr
    · rw [List.mem_singleton.1 hr]; unfold okR; omega
  have hr := runes_enc _ hok
  have hb : bytesB (enc (nums s ++ [q])) = false := by
    unfold bytesB
    rw [hr, List.all_append]
    have : alone q = false := by
      unfold alone; simp; omega
    simp [this]
  rw [he]
  refine ⟨hb, ?_, back_enc _ hok⟩
  unfold encodeV
  rw [hb, hr]
  simp only [Bool.false_and, Bool.false_eq_true, if_false]
  have := pairs_small (nums s ++ [q]) (by
    intro r hr
    rcases List.mem_append.1 hr with hr | hr
    · obtain ⟨b, -, rfl⟩ := List.mem_map.1 hr
      have := b.toNat_lt; omega
    · rw [List.mem_singleton.1 hr]; omega)
  simp only [List.length_cons, this, List.length_append, List.length_nil]
  simp [nums]; omega

end Go.Proofs.Ytkgaddlclfjkmaa.Mt
