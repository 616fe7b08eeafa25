/-
  Package lex as functions on lists of bytes: what each of its functions answers. Nothing of the program is named here.
-/
import Derived.Test.YtkobcgemllcfoaaDoorFixMath
import Derived.Lib.Bytealg
import Derived.KernelRfl
namespace Go.Proofs.YtkobcgemllcfoaaDoor.Lx

/-- A fact on each byte, asked of all 256. -/
theorem byte_all (p : UInt8 → Bool) (h : (List.range 256).all (fun n => p (UInt8.ofNat n)) = true) (b : UInt8) : p b = true := by
  have := List.all_eq_true.1 h b.toNat (List.mem_range.2 b.toNat_lt)
  simpa using this
theorem u8_eq {a b : UInt8} (h : a.toNat = b.toNat) : a = b := UInt8.toNat_inj.1 h
theorem u8_int (n : Int) (h0 : 0 ≤ n) (h1 : n ≤ 255) : ∃ b : UInt8, n = (b.toNat : Int) :=
  ⟨UInt8.ofNat n.toNat, by simp; omega⟩

def white (b : UInt8) : Bool := b == 0 || b == 9 || b == 10 || b == 12 || b == 13 || b == 32
def delim (b : UInt8) : Bool := b == 40 || b == 41 || b == 60 || b == 62 || b == 91 || b == 93 || b == 123 || b == 125 || b == 47 || b == 37
def reg (b : UInt8) : Bool := !white b && !delim b
def blank (b : UInt8) : Bool := white b || b == 37
def inLine (b : UInt8) : Bool := b != 10 && b != 13
def printed (b : UInt8) : Bool := decide (32 ≤ b.toNat) && decide (b.toNat ≤ 126)
def isHex (b : UInt8) : Bool := (decide (48 ≤ b.toNat) && decide (b.toNat ≤ 57)) || (decide (65 ≤ b.toNat) && decide (b.toNat ≤ 70)) || (decide (97 ≤ b.toNat) && decide (b.toNat ≤ 102))
def hexV (b : UInt8) : UInt8 := if 97 ≤ b.toNat then b - 87 else if 65 ≤ b.toNat then b - 55 else b - 48
def isOct (b : UInt8) : Bool := decide (48 ≤ b.toNat) && decide (b.toNat ≤ 55)
def numB (b : UInt8) : Bool := (decide (48 ≤ b.toNat) && decide (b.toNat ≤ 57)) || b == 43 || b == 45 || b == 46

/-- How many bytes from the begin on fit. -/
def tw (p : UInt8 → Bool) : List UInt8 → Nat
  | [] => 0
  | b :: r => if p b then tw p r + 1 else 0
theorem tw_le (p : UInt8 → Bool) : ∀ l : List UInt8, tw p l ≤ l.length
  | [] => Nat.le_refl _
  | b :: r => by
    have := tw_le p r
    unfold tw; split <;> simp <;> omega
theorem tw_take (p : UInt8 → Bool) : ∀ l : List UInt8, ∀ b ∈ l.take (tw p l), p b = true
  | [], _, h => by simp at h
  | b :: r, c, h => by
    unfold tw at h
    split at h
    · rw [List.take_succ_cons] at h
      rcases List.mem_cons.1 h with rfl | h
      · assumption
      · exact tw_take p r c h
    · simp at h

/-- White and comments; true: in a comment. -/
def spc : Bool → List UInt8 → Nat
  | _, [] => 0
  | true, b :: r => if inLine b then spc true r + 1 else spc false r + 1
  | false, b :: r => if white b then spc false r + 1 else if b == 37 then spc true r + 1 else 0
theorem spc_le : ∀ (c : Bool) (l : List UInt8), spc c l ≤ l.length
  | _, [] => by unfold spc; exact Nat.le_refl _
  | true, b :: r => by
    have := spc_le true r; have := spc_le false r
    unfold spc; split <;> simp <;> omega
  | false, b :: r => by
    have := spc_le true r; have := spc_le false r
    unfold spc; split
    · simp; omega
    · split <;> simp; omega
theorem inLine_white {b : UInt8} (h : inLine b = false) : white b = true := by
  have := byte_all (fun b => inLine b || white b) (by kernel_rfl) b
  rw [h] at this; simpa using this
theorem spc_line : ∀ l : List UInt8, spc true l = tw inLine l + spc false (l.drop (tw inLine l))
  | [] => rfl
  | b :: r => by
    rw [spc, tw]
    cases h : inLine b
    · simp only [Bool.false_eq_true, if_false, List.drop_zero, spc, inLine_white h, if_true]; omega
    · simp only [if_true, List.drop_succ_cons]; rw [spc_line r]; omega
/-- Where white and comments end. -/
def spaceV (l : List UInt8) (at_ : Int) : Nat :=
  (min (max at_ 0) l.length).toNat + spc false (l.drop (min (max at_ 0) l.length).toNat)

/-- What a reader answers: an error's number, bytes, the place behind. -/
abbrev R3 := Int × List UInt8 × Nat

def crlf : List UInt8 → Nat
  | b :: _ => if b == 10 then 1 else 0
  | [] => 0

/-- The Name behind its sign: bytes so far, how many bytes to pass over. -/
def nameGo : List UInt8 → Nat → List UInt8 → Nat → R3
  | acc, _, [], k => (0, acc, k)
  | acc, n + 1, _ :: r, k => nameGo acc n r (k + 1)
  | acc, 0, b :: r, k =>
    if reg b then
      if b == 35 then
        match r with
        | h1 :: h2 :: _ => if isHex h1 && isHex h2 then nameGo (acc ++ [hexV h1 <<< 4 ||| hexV h2]) 2 r (k + 1) else (3, [], 0)
        | _ => (3, [], 0)
      else nameGo (acc ++ [b]) 0 r (k + 1)
    else (0, acc, k)

theorem name_end (acc : List UInt8) (k : Nat) : nameGo acc 0 [] k = (0, acc, k) := by unfold nameGo; rfl
theorem name_stop {b : UInt8} (h : reg b = false) (acc r : List UInt8) (k : Nat) : nameGo acc 0 (b :: r) k = (0, acc, k) := by
  unfold nameGo; rw [h]; rfl
theorem name_byte {b : UInt8} (h : reg b = true) (h' : b ≠ 35) (acc r : List UInt8) (k : Nat) : nameGo acc 0 (b :: r) k = nameGo (acc ++ [b]) 0 r (k + 1) := by
  rw [nameGo.eq_def]; simp only [h, if_true, show (b == 35) = false from by simpa using h', Bool.false_eq_true, if_false]
theorem name_two {b h1 h2 : UInt8} (hb : b = 35) (e1 : isHex h1 = true) (e2 : isHex h2 = true) (acc r : List UInt8) (k : Nat) :
    nameGo acc 0 (b :: h1 :: h2 :: r) k = nameGo (acc ++ [hexV h1 <<< 4 ||| hexV h2]) 0 r (k + 3) := by
  subst hb
  rw [nameGo.eq_def]; simp only [show reg 35 = true from rfl, e1, e2, if_true, Bool.and_self, beq_self_eq_true]
  rw [nameGo.eq_def]; simp only []
  rw [nameGo.eq_def]
theorem name_bad0 {b : UInt8} (hb : b = 35) (acc : List UInt8) (k : Nat) : nameGo acc 0 [b] k = (3, [], 0) := by
  subst hb; rw [nameGo.eq_def]; rfl
theorem name_bad1 {b : UInt8} (hb : b = 35) (h1 : UInt8) (acc : List UInt8) (k : Nat) : nameGo acc 0 [b, h1] k = (3, [], 0) := by
  subst hb; rw [nameGo.eq_def]; rfl
theorem name_bad2 {b h1 h2 : UInt8} (hb : b = 35) (e : (isHex h1 && isHex h2) = false) (acc r : List UInt8) (k : Nat) : nameGo acc 0 (b :: h1 :: h2 :: r) k = (3, [], 0) := by
  subst hb; rw [nameGo.eq_def]; simp only [show reg 35 = true from rfl, e, if_true, beq_self_eq_true, Bool.false_eq_true, if_false]
theorem name_bad3 {b h1 : UInt8} (hb : b = 35) (e : isHex h1 = false) (acc r : List UInt8) (k : Nat) : nameGo acc 0 (b :: h1 :: r) k = (3, [], 0) := by
  cases r with
  | nil => exact name_bad1 hb h1 acc k
  | cons h2 r => exact name_bad2 hb (by rw [e]; rfl) acc r k

/-- Digits of 8: so far, at most n more. -/
def oct : Nat → Nat → List UInt8 → Nat × Nat
  | v, 0, _ => (v, 0)
  | v, _ + 1, [] => (v, 0)
  | v, n + 1, b :: r => if isOct b then ((oct (8 * v + (b.toNat - 48)) n r).1, (oct (8 * v + (b.toNat - 48)) n r).2 + 1) else (v, 0)
def escB (b : UInt8) : UInt8 := if b == 110 then 10 else if b == 114 then 13 else if b == 116 then 9 else if b == 98 then 8 else if b == 102 then 12 else b
/-- What a backslash's text is, and how many bytes it takes. -/
def esc (l : List UInt8) : List UInt8 × Nat :=
  match l with
  | [] => ([], 0)
  | b :: r =>
    if isOct b then ([UInt8.ofNat (oct 0 3 (b :: r)).1], (oct 0 3 (b :: r)).2)
    else if b == 13 then ([], 1 + crlf r)
    else if b == 10 then ([], 1)
    else ([escB b], 1)

theorem oct_le : ∀ (n v : Nat) (l : List UInt8), (oct v n l).2 ≤ l.length
  | 0, _, _ => by unfold oct; exact Nat.zero_le _
  | _ + 1, _, [] => by unfold oct; exact Nat.zero_le _
  | n + 1, v, b :: r => by
    have := oct_le n (8 * v + (b.toNat - 48)) r
    unfold oct; split <;> simp; omega
theorem crlf_le : ∀ l : List UInt8, crlf l ≤ l.length
  | [] => Nat.le_refl _
  | b :: r => by
    show (if b == 10 then 1 else 0) ≤ _
    split <;> simp
theorem esc_cons (b : UInt8) (r : List UInt8) : esc (b :: r) = if isOct b then ([UInt8.ofNat (oct 0 3 (b :: r)).1], (oct 0 3 (b :: r)).2) else if b == 13 then ([], 1 + crlf r) else if b == 10 then ([], 1) else ([escB b], 1) := rfl
theorem oct_pos {b : UInt8} (h : isOct b = true) (r : List UInt8) : 1 ≤ (oct 0 3 (b :: r)).2 := by
  unfold oct; rw [if_pos h]; simp
theorem esc_le {l : List UInt8} : (esc l).2 ≤ l.length := by
  cases l with
  | nil => exact Nat.le_refl _
  | cons b r =>
    rw [esc_cons]
    split
    · exact oct_le 3 0 (b :: r)
    · have := crlf_le r
      split
      · simp; omega
      · split <;> simp
theorem esc_len {l : List UInt8} : (esc l).1.length ≤ (esc l).2 := by
  cases l with
  | nil => exact Nat.le_refl _
  | cons b r =>
    rw [esc_cons]
    split
    · rename_i h; have := oct_pos h r; simpa using this
    · split
      · simp
      · split <;> simp
theorem esc_oct {b : UInt8} (h : isOct b = true) (r : List UInt8) : esc (b :: r) = ([UInt8.ofNat (oct (b.toNat - 48) 2 r).1], (oct (b.toNat - 48) 2 r).2 + 1) := by
  rw [esc_cons, if_pos h]
  conv => lhs; unfold oct
  rw [if_pos h]; simp
theorem esc_cr {b : UInt8} (h : b = 13) (r : List UInt8) : esc (b :: r) = ([], 1 + crlf r) := by subst h; rfl
theorem esc_lf {b : UInt8} (h : b = 10) (r : List UInt8) : esc (b :: r) = ([], 1) := by subst h; rfl
theorem esc_other {b : UInt8} (h : isOct b = false) (h1 : b ≠ 13) (h2 : b ≠ 10) (r : List UInt8) : esc (b :: r) = ([escB b], 1) := by
  rw [esc_cons, if_neg (by rw [h]; simp), if_neg (by simpa using h1), if_neg (by simpa using h2)]

/-- The Text behind "(". -/
def textGo : List UInt8 → Nat → Nat → List UInt8 → Nat → R3
  | _, _, _, [], _ => (4, [], 0)
  | acc, d, n + 1, _ :: r, k => textGo acc d n r (k + 1)
  | acc, d, 0, b :: r, k =>
    if b == 92 then textGo (acc ++ (esc r).1) d (esc r).2 r (k + 1)
    else if b == 40 then textGo (acc ++ [40]) (d + 1) 0 r (k + 1)
    else if b == 41 then
      match d with
      | 0 => (0, acc, k + 1)
      | d + 1 => textGo (acc ++ [41]) d 0 r (k + 1)
    else if b == 13 then textGo (acc ++ [10]) d (crlf r) r (k + 1)
    else textGo (acc ++ [b]) d 0 r (k + 1)

theorem text_pass (acc : List UInt8) (d : Nat) : ∀ (n : Nat) (l : List UInt8) (k : Nat), n ≤ l.length → textGo acc d n l k = textGo acc d 0 (l.drop n) (k + n)
  | 0, l, k, _ => rfl
  | n + 1, [], k, h => by simp at h
  | n + 1, b :: r, k, h => by
    rw [textGo, text_pass acc d n r (k + 1) (by simp at h; omega), List.drop_succ_cons]
    congr 1; omega
theorem text_end (acc : List UInt8) (d k : Nat) : textGo acc d 0 [] k = (4, [], 0) := by unfold textGo; rfl
theorem text_esc {b : UInt8} (h : b = 92) (acc : List UInt8) (d : Nat) (r : List UInt8) (k : Nat) : textGo acc d 0 (b :: r) k = textGo (acc ++ (esc r).1) d 0 (r.drop (esc r).2) (k + 1 + (esc r).2) := by
  subst h
  rw [textGo.eq_def]; simp only [beq_self_eq_true, if_true]
  exact text_pass _ _ _ _ _ esc_le
theorem text_open {b : UInt8} (h : b = 40) (acc : List UInt8) (d : Nat) (r : List UInt8) (k : Nat) : textGo acc d 0 (b :: r) k = textGo (acc ++ [40]) (d + 1) 0 r (k + 1) := by
  subst h; rw [textGo.eq_def]; rfl
theorem text_done {b : UInt8} (h : b = 41) (acc : List UInt8) (r : List UInt8) (k : Nat) : textGo acc 0 0 (b :: r) k = (0, acc, k + 1) := by
  subst h; rw [textGo.eq_def]; rfl
theorem text_close {b : UInt8} (h : b = 41) (acc : List UInt8) (d : Nat) (r : List UInt8) (k : Nat) : textGo acc (d + 1) 0 (b :: r) k = textGo (acc ++ [41]) d 0 r (k + 1) := by
  subst h; rw [textGo.eq_def]; rfl
theorem text_cr {b : UInt8} (h : b = 13) (acc : List UInt8) (d : Nat) (r : List UInt8) (k : Nat) : textGo acc d 0 (b :: r) k = textGo (acc ++ [10]) d 0 (r.drop (crlf r)) (k + 1 + crlf r) := by
  subst h
  rw [textGo.eq_def]; simp only [show ((13 : UInt8) == 92) = false from rfl, show ((13 : UInt8) == 40) = false from rfl, show ((13 : UInt8) == 41) = false from rfl, beq_self_eq_true, if_true, Bool.false_eq_true, if_false]
  exact text_pass _ _ _ _ _ (crlf_le r)
theorem text_byte {b : UInt8} (h1 : b ≠ 92) (h2 : b ≠ 40) (h3 : b ≠ 41) (h4 : b ≠ 13) (acc : List UInt8) (d : Nat) (r : List UInt8) (k : Nat) : textGo acc d 0 (b :: r) k = textGo (acc ++ [b]) d 0 r (k + 1) := by
  rw [textGo.eq_def]
  simp only [show (b == 92) = false by simpa using h1, show (b == 40) = false by simpa using h2, show (b == 41) = false by simpa using h3, show (b == 13) = false by simpa using h4, Bool.false_eq_true, if_false]

/-- The Text behind "<": whole bytes so far, and the half one. -/
def hexGo : List UInt8 → Option UInt8 → List UInt8 → Nat → R3
  | _, _, [], _ => (4, [], 0)
  | acc, h, b :: r, k =>
    if b == 62 then (0, acc ++ h.toList, k + 1)
    else if white b then hexGo acc h r (k + 1)
    else if isHex b then
      match h with
      | none => hexGo acc (some (hexV b <<< 4)) r (k + 1)
      | some u => hexGo (acc ++ [u ||| hexV b]) none r (k + 1)
    else (3, [], 0)

theorem hex_end (acc : List UInt8) (h : Option UInt8) (k : Nat) : hexGo acc h [] k = (4, [], 0) := by unfold hexGo; rfl
theorem hex_done {b : UInt8} (e : b = 62) (acc : List UInt8) (h : Option UInt8) (r : List UInt8) (k : Nat) : hexGo acc h (b :: r) k = (0, acc ++ h.toList, k + 1) := by
  subst e; rw [hexGo.eq_def]; rfl
theorem hex_white {b : UInt8} (e : b ≠ 62) (e' : white b = true) (acc : List UInt8) (h : Option UInt8) (r : List UInt8) (k : Nat) : hexGo acc h (b :: r) k = hexGo acc h r (k + 1) := by
  rw [hexGo.eq_def]; simp only [show (b == 62) = false by simpa using e, e', if_true, Bool.false_eq_true, if_false]
theorem hex_bad {b : UInt8} (e : b ≠ 62) (e' : white b = false) (e'' : isHex b = false) (acc : List UInt8) (h : Option UInt8) (r : List UInt8) (k : Nat) : hexGo acc h (b :: r) k = (3, [], 0) := by
  rw [hexGo.eq_def]; simp only [show (b == 62) = false by simpa using e, e', e'', Bool.false_eq_true, if_false]
theorem hex_is {b : UInt8} (e : isHex b = true) : b ≠ 62 ∧ white b = false := by
  have := byte_all (fun b => !isHex b || (!(b == 62) && !white b)) (by kernel_rfl) b
  rw [e] at this; simpa using this
theorem hex_first {b : UInt8} (e : isHex b = true) (acc r : List UInt8) (k : Nat) : hexGo acc none (b :: r) k = hexGo acc (some (hexV b <<< 4)) r (k + 1) := by
  rw [hexGo.eq_def]; simp only [show (b == 62) = false by simpa using (hex_is e).1, (hex_is e).2, e, if_true, Bool.false_eq_true, if_false]
theorem hex_second {b : UInt8} (e : isHex b = true) (acc r : List UInt8) (u : UInt8) (k : Nat) : hexGo acc (some u) (b :: r) k = hexGo (acc ++ [u ||| hexV b]) none r (k + 1) := by
  rw [hexGo.eq_def]; simp only [show (b == 62) = false by simpa using (hex_is e).1, (hex_is e).2, e, if_true, Bool.false_eq_true, if_false]

/-- A token: its kind, number, text, wholeness, place, and the place behind. -/
structure Tok where
  kind : Int
  f : Int
  s : List UInt8
  whole : Bool
  frm : Nat
  to : Nat
def zero : Tok := ⟨0, 0, [], false, 0, 0⟩

def pointIn (l : List UInt8) : Bool := decide (0 ≤ Lib.indexByte l 46)

/-- A Word or a Number. -/
def wordV (l : List UInt8) (k : Nat) : Int × Tok :=
  if numB ((l.drop k).headD 0) then
    if Fx.parseE ((l.drop k).take (tw reg (l.drop k))) = 0 then
      (0, ⟨1, Fx.parseV ((l.drop k).take (tw reg (l.drop k))), [], !pointIn ((l.drop k).take (tw reg (l.drop k))), 0, k + tw reg (l.drop k)⟩)
    else (Fx.parseE ((l.drop k).take (tw reg (l.drop k))), zero)
  else (0, ⟨8, 0, (l.drop k).take (tw reg (l.drop k)), false, 0, k + tw reg (l.drop k)⟩)

/-- A reader's answer as a token of a kind. -/
def ofR3 (kind : Int) (x : R3) : Int × Tok := if x.1 = 0 then (0, ⟨kind, 0, x.2.1, false, 0, x.2.2⟩) else (x.1, zero)

/-- The token that begins right at a place, without where it begins. -/
def tokV (l : List UInt8) (k : Nat) : Int × Tok :=
  match l.drop k with
  | [] => (0, ⟨0, 0, [], false, 0, k⟩)
  | b :: r =>
    if b == 91 then (0, ⟨4, 0, [], false, 0, k + 1⟩)
    else if b == 93 then (0, ⟨5, 0, [], false, 0, k + 1⟩)
    else if b == 60 then (if r.head? == some 60 then (0, ⟨6, 0, [], false, 0, k + 2⟩) else ofR3 3 (hexGo [] none r (k + 1)))
    else if b == 62 then (if r.head? == some 62 then (0, ⟨7, 0, [], false, 0, k + 2⟩) else (3, zero))
    else if b == 47 then ofR3 2 (nameGo [] 0 r (k + 1))
    else if b == 40 then ofR3 3 (textGo [] 0 0 r (k + 1))
    else if b == 41 || b == 123 || b == 125 then (3, zero)
    else wordV l k

/-- Next. -/
def nextV (l : List UInt8) (at_ : Int) : Int × Tok :=
  if 0 ≤ at_ ∧ at_ ≤ l.length then
    if (tokV l (spaceV l at_)).1 = 0 then (0, { (tokV l (spaceV l at_)).2 with frm := spaceV l at_ }) else ((tokV l (spaceV l at_)).1, zero)
  else (1, zero)

/-- A byte of a text as Quote tells it. -/
def octD (n : Nat) : UInt8 := UInt8.ofNat (48 + n)
def quoteB (b : UInt8) : List UInt8 :=
  if b == 40 || b == 41 || b == 92 then [92, b]
  else if b == 10 then [92, 110] else if b == 13 then [92, 114] else if b == 9 then [92, 116] else if b == 8 then [92, 98] else if b == 12 then [92, 102]
  else if printed b then [b]
  else [92, octD (b.toNat / 64), octD (b.toNat / 8 % 8), octD (b.toNat % 8)]
def quoteV (l : List UInt8) : List UInt8 := 40 :: (l.flatMap quoteB ++ [41])

def hexD (n : Nat) : UInt8 := if n < 10 then UInt8.ofNat (48 + n) else UInt8.ofNat (55 + n)
def nameB (b : UInt8) : List UInt8 := if reg b && b != 35 && printed b then [b] else [35, hexD (b.toNat / 16), hexD (b.toNat % 16)]
def nameV (l : List UInt8) : List UInt8 := 47 :: l.flatMap nameB

end Go.Proofs.YtkobcgemllcfoaaDoor.Lx
