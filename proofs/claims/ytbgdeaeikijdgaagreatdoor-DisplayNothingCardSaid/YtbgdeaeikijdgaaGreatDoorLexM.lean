/-
  Package lex as functions on lists of bytes: what each of its functions answers. Nothing of the program is named here.
  Objects as a tree, and what package cos answers over them. Nothing of the program is named here.
  When two objects are the same. Nothing of the program is named here.
  Objects as texts, and why one may not be written: what package write answers. Nothing of the program is named here.
  A token is the same wherever its bytes stand: only its places move.
  Where a token ends: behind where it begins, within the text.
  How great a token's number is, and how long its text.
  Where an object ends: behind its first token, within the text.
  Operators of a text, and as a text: what package ops answers. An operator is kept as an object of the kind 0: its name, and its objects. Nothing of the program is named here.
  How entries are settled with holes: what is left of them is what Set makes, one behind the other.
-/
import Derived.Test.YtbgdeaeikijdgaaGreatDoorFixMs
import Derived.Lib.Bytealg
import Derived.KernelRfl
import Derived.Lib.Strings
import Derived.Lib.Join
namespace Go.Proofs.YtbgdeaeikijdgaaGreatDoor.Lx

/-- A fact on each byte, asked of all 256. -/
theorem byte_all (p : UInt8 → Bool) (h : (List.range 256).all (fun n => p (UInt8.ofNat n)) = true) (b : UInt8) : p b = true := by
  have := List.all_eq_true.1 h b.toNat (List.mem_range.2 b.toNat_lt)
  simpa using this
theorem u8_eq {a b : UInt8} (h : a.toNat = b.toNat) : a = b := UInt8.toNat_inj.1 h
theorem u8_int (n : Int) (h0 : 0 ≤ n) (h1 : n ≤ 255) : ∃ b : UInt8, n = (b.toNat : Int) :=
  ⟨UInt8.ofNat n.toNat, by simp; omega⟩

def white (b : UInt8) : Bool := b == 0 || b == 9 || b == 10 || b == 12 || b == 13 || b == 32
def delim (b : UInt8) : Bool := b == 40 || b == 41 || b == 60 || b == 62 || b == 91 || b == 93 || b == 123 || b == 125 || b == 47 || b == 37
def reg (b : UInt8) : Bool := !white b && !delim b
def blank (b : UInt8) : Bool := white b || b == 37
def inLine (b : UInt8) : Bool := b != 10 && b != 13
def printed (b : UInt8) : Bool := decide (32 ≤ b.toNat) && decide (b.toNat ≤ 126)
def isHex (b : UInt8) : Bool := (decide (48 ≤ b.toNat) && decide (b.toNat ≤ 57)) || (decide (65 ≤ b.toNat) && decide (b.toNat ≤ 70)) || (decide (97 ≤ b.toNat) && decide (b.toNat ≤ 102))
def hexV (b : UInt8) : UInt8 := if 97 ≤ b.toNat then b - 87 else if 65 ≤ b.toNat then b - 55 else b - 48
def isOct (b : UInt8) : Bool := decide (48 ≤ b.toNat) && decide (b.toNat ≤ 55)
def numB (b : UInt8) : Bool := (decide (48 ≤ b.toNat) && decide (b.toNat ≤ 57)) || b == 43 || b == 45 || b == 46

/-- How many bytes from the begin on fit. -/
def tw (p : UInt8 → Bool) : List UInt8 → Nat
  | [] => 0
  | b :: r => if p b then tw p r + 1 else 0
theorem tw_le (p : UInt8 → Bool) : ∀ l : List UInt8, tw p l ≤ l.length
  | [] => Nat.le_refl _
  | b :: r => by
    have := tw_le p r
    unfold tw; split <;> simp <;> omega
theorem tw_take (p : UInt8 → Bool) : ∀ l : List UInt8, ∀ b ∈ l.take (tw p l), p b = true
  | [], _, h => by simp at h
  | b :: r, c, h => by
    unfold tw at h
    split at h
    · rw [List.take_succ_cons] at h
      rcases List.mem_cons.1 h with rfl | h
      · assumption
      · exact tw_take p r c h
    · simp at h

/-- White and comments; true: in a comment. -/
def spc : Bool → List UInt8 → Nat
  | _, [] => 0
  | true, b :: r => if inLine b then spc true r + 1 else spc false r + 1
  | false, b :: r => if white b then spc false r + 1 else if b == 37 then spc true r + 1 else 0
theorem spc_le : ∀ (c : Bool) (l : List UInt8), spc c l ≤ l.length
  | _, [] => by unfold spc; exact Nat.le_refl _
  | true, b :: r => by
    have := spc_le true r; have := spc_le false r
    unfold spc; split <;> simp <;> omega
  | false, b :: r => by
    have := spc_le true r; have := spc_le false r
    unfold spc; split
    · simp; omega
    · split <;> simp; omega
theorem inLine_white {b : UInt8} (h : inLine b = false) : white b = true := by
  have := byte_all (fun b => inLine b || white b) (by kernel_rfl) b
  rw [h] at this; simpa using this
theorem spc_line : ∀ l : List UInt8, spc true l = tw inLine l + spc false (l.drop (tw inLine l))
  | [] => rfl
  | b :: r => by
    rw [spc, tw]
    cases h : inLine b
    · simp only [Bool.false_eq_true, if_false, List.drop_zero, spc, inLine_white h, if_true]; omega
    · simp only [if_true, List.drop_succ_cons]; rw [spc_line r]; omega
/-- Where white and comments end. -/
def spaceV (l : List UInt8) (at_ : Int) : Nat :=
  (min (max at_ 0) l.length).toNat + spc false (l.drop (min (max at_ 0) l.length).toNat)

/-- What a reader answers: an error's number, bytes, the place behind. -/
abbrev R3 := Int × List UInt8 × Nat

def crlf : List UInt8 → Nat
  | b :: _ => if b == 10 then 1 else 0
  | [] => 0

/-- The Name behind its sign: bytes so far, how many bytes to pass over. -/
def nameGo : List UInt8 → Nat → List UInt8 → Nat → R3
  | acc, _, [], k => (0, acc, k)
  | acc, n + 1, _ :: r, k => nameGo acc n r (k + 1)
  | acc, 0, b :: r, k =>
    if reg b then
      if b == 35 then
        match r with
        | h1 :: h2 :: _ => if isHex h1 && isHex h2 then nameGo (acc ++ [hexV h1 <<< 4 ||| hexV h2]) 2 r (k + 1) else (3, [], 0)
        | _ => (3, [], 0)
      else nameGo (acc ++ [b]) 0 r (k + 1)
    else (0, acc, k)

theorem name_end (acc : List UInt8) (k : Nat) : nameGo acc 0 [] k = (0, acc, k) := by unfold nameGo; rfl
theorem name_stop {b : UInt8} (h : reg b = false) (acc r : List UInt8) (k : Nat) : nameGo acc 0 (b :: r) k = (0, acc, k) := by
  unfold nameGo; rw [h]; rfl
theorem name_byte {b : UInt8} (h : reg b = true) (h' : b ≠ 35) (acc r : List UInt8) (k : Nat) : nameGo acc 0 (b :: r) k = nameGo (acc ++ [b]) 0 r (k + 1) := by
  rw [nameGo.eq_def]; simp only [h, if_true, show (b == 35) = false from by simpa using h', Bool.false_eq_true, if_false]
theorem name_two {b h1 h2 : UInt8} (hb : b = 35) (e1 : isHex h1 = true) (e2 : isHex h2 = true) (acc r : List UInt8) (k : Nat) :
    nameGo acc 0 (b :: h1 :: h2 :: r) k = nameGo (acc ++ [hexV h1 <<< 4 ||| hexV h2]) 0 r (k + 3) := by
  subst hb
  rw [nameGo.eq_def]; simp only [show reg 35 = true from rfl, e1, e2, if_true, Bool.and_self, beq_self_eq_true]
  rw [nameGo.eq_def]; simp only []
  rw [nameGo.eq_def]
theorem name_bad0 {b : UInt8} (hb : b = 35) (acc : List UInt8) (k : Nat) : nameGo acc 0 [b] k = (3, [], 0) := by
  subst hb; rw [nameGo.eq_def]; rfl
theorem name_bad1 {b : UInt8} (hb : b = 35) (h1 : UInt8) (acc : List UInt8) (k : Nat) : nameGo acc 0 [b, h1] k = (3, [], 0) := by
  subst hb; rw [nameGo.eq_def]; rfl
theorem name_bad2 {b h1 h2 : UInt8} (hb : b = 35) (e : (isHex h1 && isHex h2) = false) (acc r : List UInt8) (k : Nat) : nameGo acc 0 (b :: h1 :: h2 :: r) k = (3, [], 0) := by
  subst hb; rw [nameGo.eq_def]; simp only [show reg 35 = true from rfl, e, if_true, beq_self_eq_true, Bool.false_eq_true, if_false]
theorem name_bad3 {b h1 : UInt8} (hb : b = 35) (e : isHex h1 = false) (acc r : List UInt8) (k : Nat) : nameGo acc 0 (b :: h1 :: r) k = (3, [], 0) := by
  cases r with
  | nil => exact name_bad1 hb h1 acc k
  | cons h2 r => exact name_bad2 hb (by rw [e]; rfl) acc r k

/-- Digits of 8: so far, at most n more. -/
def oct : Nat → Nat → List UInt8 → Nat × Nat
  | v, 0, _ => (v, 0)
  | v, _ + 1, [] => (v, 0)
  | v, n + 1, b :: r => if isOct b then ((oct (8 * v + (b.toNat - 48)) n r).1, (oct (8 * v + (b.toNat - 48)) n r).2 + 1) else (v, 0)
def escB (b : UInt8) : UInt8 := if b == 110 then 10 else if b == 114 then 13 else if b == 116 then 9 else if b == 98 then 8 else if b == 102 then 12 else b
/-- What a backslash's text is, and how many bytes it takes. -/
def esc (l : List UInt8) : List UInt8 × Nat :=
  match l with
  | [] => ([], 0)
  | b :: r =>
    if isOct b then ([UInt8.ofNat (oct 0 3 (b :: r)).1], (oct 0 3 (b :: r)).2)
    else if b == 13 then ([], 1 + crlf r)
    else if b == 10 then ([], 1)
    else ([escB b], 1)

theorem oct_le : ∀ (n v : Nat) (l : List UInt8), (oct v n l).2 ≤ l.length
  | 0, _, _ => by unfold oct; exact Nat.zero_le _
  | _ + 1, _, [] => by unfold oct; exact Nat.zero_le _
  | n + 1, v, b :: r => by
    have := oct_le n (8 * v + (b.toNat - 48)) r
    unfold oct; split <;> simp; omega
theorem crlf_le : ∀ l : List UInt8, crlf l ≤ l.length
  | [] => Nat.le_refl _
  | b :: r => by
    show (if b == 10 then 1 else 0) ≤ _
    split <;> simp
theorem esc_cons (b : UInt8) (r : List UInt8) : esc (b :: r) = if isOct b then ([UInt8.ofNat (oct 0 3 (b :: r)).1], (oct 0 3 (b :: r)).2) else if b == 13 then ([], 1 + crlf r) else if b == 10 then ([], 1) else ([escB b], 1) := rfl
theorem oct_pos {b : UInt8} (h : isOct b = true) (r : List UInt8) : 1 ≤ (oct 0 3 (b :: r)).2 := by
  unfold oct; rw [if_pos h]; simp
theorem esc_le {l : List UInt8} : (esc l).2 ≤ l.length := by
  cases l with
  | nil => exact Nat.le_refl _
  | cons b r =>
    rw [esc_cons]
    split
    · exact oct_le 3 0 (b :: r)
    · have := crlf_le r
      split
      · simp; omega
      · split <;> simp
theorem esc_len {l : List UInt8} : (esc l).1.length ≤ (esc l).2 := by
  cases l with
  | nil => exact Nat.le_refl _
  | cons b r =>
    rw [esc_cons]
    split
    · rename_i h; have := oct_pos h r; simpa using this
    · split
      · simp
      · split <;> simp
theorem esc_oct {b : UInt8} (h : isOct b = true) (r : List UInt8) : esc (b :: r) = ([UInt8.ofNat (oct (b.toNat - 48) 2 r).1], (oct (b.toNat - 48) 2 r).2 + 1) := by
  rw [esc_cons, if_pos h]
  conv => lhs; unfold oct
  rw [if_pos h]; simp
theorem esc_cr {b : UInt8} (h : b = 13) (r : List UInt8) : esc (b :: r) = ([], 1 + crlf r) := by subst h; rfl
theorem esc_lf {b : UInt8} (h : b = 10) (r : List UInt8) : esc (b :: r) = ([], 1) := by subst h; rfl
theorem esc_other {b : UInt8} (h : isOct b = false) (h1 : b ≠ 13) (h2 : b ≠ 10) (r : List UInt8) : esc (b :: r) = ([escB b], 1) := by
  rw [esc_cons, if_neg (by rw [h]; simp), if_neg (by simpa using h1), if_neg (by simpa using h2)]

/-- The Text behind "(". -/
def textGo : List UInt8 → Nat → Nat → List UInt8 → Nat → R3
  | _, _, _, [], _ => (4, [], 0)
  | acc, d, n + 1, _ :: r, k => textGo acc d n r (k + 1)
  | acc, d, 0, b :: r, k =>
    if b == 92 then textGo (acc ++ (esc r).1) d (esc r).2 r (k + 1)
    else if b == 40 then textGo (acc ++ [40]) (d + 1) 0 r (k + 1)
    else if b == 41 then
      match d with
      | 0 => (0, acc, k + 1)
      | d + 1 => textGo (acc ++ [41]) d 0 r (k + 1)
    else if b == 13 then textGo (acc ++ [10]) d (crlf r) r (k + 1)
    else textGo (acc ++ [b]) d 0 r (k + 1)

theorem text_pass (acc : List UInt8) (d : Nat) : ∀ (n : Nat) (l : List UInt8) (k : Nat), n ≤ l.length → textGo acc d n l k = textGo acc d 0 (l.drop n) (k + n)
  | 0, l, k, _ => rfl
  | n + 1, [], k, h => by simp at h
  | n + 1, b :: r, k, h => by
    rw [textGo, text_pass acc d n r (k + 1) (by simp at h; omega), List.drop_succ_cons]
    congr 1; omega
theorem text_end (acc : List UInt8) (d k : Nat) : textGo acc d 0 [] k = (4, [], 0) := by unfold textGo; rfl
theorem text_esc {b : UInt8} (h : b = 92) (acc : List UInt8) (d : Nat) (r : List UInt8) (k : Nat) : textGo acc d 0 (b :: r) k = textGo (acc ++ (esc r).1) d 0 (r.drop (esc r).2) (k + 1 + (esc r).2) := by
  subst h
  rw [textGo.eq_def]; simp only [beq_self_eq_true, if_true]
  exact text_pass _ _ _ _ _ esc_le
theorem text_open {b : UInt8} (h : b = 40) (acc : List UInt8) (d : Nat) (r : List UInt8) (k : Nat) : textGo acc d 0 (b :: r) k = textGo (acc ++ [40]) (d + 1) 0 r (k + 1) := by
  subst h; rw [textGo.eq_def]; rfl
theorem text_done {b : UInt8} (h : b = 41) (acc : List UInt8) (r : List UInt8) (k : Nat) : textGo acc 0 0 (b :: r) k = (0, acc, k + 1) := by
  subst h; rw [textGo.eq_def]; rfl
theorem text_close {b : UInt8} (h : b = 41) (acc : List UInt8) (d : Nat) (r : List UInt8) (k : Nat) : textGo acc (d + 1) 0 (b :: r) k = textGo (acc ++ [41]) d 0 r (k + 1) := by
  subst h; rw [textGo.eq_def]; rfl
theorem text_cr {b : UInt8} (h : b = 13) (acc : List UInt8) (d : Nat) (r : List UInt8) (k : Nat) : textGo acc d 0 (b :: r) k = textGo (acc ++ [10]) d 0 (r.drop (crlf r)) (k + 1 + crlf r) := by
  subst h
  rw [textGo.eq_def]; simp only [show ((13 : UInt8) == 92) = false from rfl, show ((13 : UInt8) == 40) = false from rfl, show ((13 : UInt8) == 41) = false from rfl, beq_self_eq_true, if_true, Bool.false_eq_true, if_false]
  exact text_pass _ _ _ _ _ (crlf_le r)
theorem text_byte {b : UInt8} (h1 : b ≠ 92) (h2 : b ≠ 40) (h3 : b ≠ 41) (h4 : b ≠ 13) (acc : List UInt8) (d : Nat) (r : List UInt8) (k : Nat) : textGo acc d 0 (b :: r) k = textGo (acc ++ [b]) d 0 r (k + 1) := by
  rw [textGo.eq_def]
  simp only [show (b == 92) = false by simpa using h1, show (b == 40) = false by simpa using h2, show (b == 41) = false by simpa using h3, show (b == 13) = false by simpa using h4, Bool.false_eq_true, if_false]

/-- The Text behind "<": whole bytes so far, and the half one. -/
def hexGo : List UInt8 → Option UInt8 → List UInt8 → Nat → R3
  | _, _, [], _ => (4, [], 0)
  | acc, h, b :: r, k =>
    if b == 62 then (0, acc ++ h.toList, k + 1)
    else if white b then hexGo acc h r (k + 1)
    else if isHex b then
      match h with
      | none => hexGo acc (some (hexV b <<< 4)) r (k + 1)
      | some u => hexGo (acc ++ [u ||| hexV b]) none r (k + 1)
    else (3, [], 0)

theorem hex_end (acc : List UInt8) (h : Option UInt8) (k : Nat) : hexGo acc h [] k = (4, [], 0) := by unfold hexGo; rfl
theorem hex_done {b : UInt8} (e : b = 62) (acc : List UInt8) (h : Option UInt8) (r : List UInt8) (k : Nat) : hexGo acc h (b :: r) k = (0, acc ++ h.toList, k + 1) := by
  subst e; rw [hexGo.eq_def]; rfl
theorem hex_white {b : UInt8} (e : b ≠ 62) (e' : white b = true) (acc : List UInt8) (h : Option UInt8) (r : List UInt8) (k : Nat) : hexGo acc h (b :: r) k = hexGo acc h r (k + 1) := by
  rw [hexGo.eq_def]; simp only [show (b == 62) = false by simpa using e, e', if_true, Bool.false_eq_true, if_false]
theorem hex_bad {b : UInt8} (e : b ≠ 62) (e' : white b = false) (e'' : isHex b = false) (acc : List UInt8) (h : Option UInt8) (r : List UInt8) (k : Nat) : hexGo acc h (b :: r) k = (3, [], 0) := by
  rw [hexGo.eq_def]; simp only [show (b == 62) = false by simpa using e, e', e'', Bool.false_eq_true, if_false]
theorem hex_is {b : UInt8} (e : isHex b = true) : b ≠ 62 ∧ white b = false := by
  have := byte_all (fun b => !isHex b || (!(b == 62) && !white b)) (by kernel_rfl) b
  rw [e] at this; simpa using this
theorem hex_first {b : UInt8} (e : isHex b = true) (acc r : List UInt8) (k : Nat) : hexGo acc none (b :: r) k = hexGo acc (some (hexV b <<< 4)) r (k + 1) := by
  rw [hexGo.eq_def]; simp only [show (b == 62) = false by simpa using (hex_is e).1, (hex_is e).2, e, if_true, Bool.false_eq_true, if_false]
theorem hex_second {b : UInt8} (e : isHex b = true) (acc r : List UInt8) (u : UInt8) (k : Nat) : hexGo acc (some u) (b :: r) k = hexGo (acc ++ [u ||| hexV b]) none r (k + 1) := by
  rw [hexGo.eq_def]; simp only [show (b == 62) = false by simpa using (hex_is e).1, (hex_is e).2, e, if_true, Bool.false_eq_true, if_false]

/-- A token: its kind, number, text, wholeness, place, and the place behind. -/
structure Tok where
  kind : Int
  f : Int
  s : List UInt8
  whole : Bool
  frm : Nat
  to : Nat
def zero : Tok := ⟨0, 0, [], false, 0, 0⟩

def pointIn (l : List UInt8) : Bool := decide (0 ≤ Lib.indexByte l 46)

/-- A Word or a Number. -/
def wordV (l : List UInt8) (k : Nat) : Int × Tok :=
  if numB ((l.drop k).headD 0) then
    if Fx.parseE ((l.drop k).take (tw reg (l.drop k))) = 0 then
      (0, ⟨1, Fx.parseV ((l.drop k).take (tw reg (l.drop k))), [], !pointIn ((l.drop k).take (tw reg (l.drop k))), 0, k + tw reg (l.drop k)⟩)
    else (Fx.parseE ((l.drop k).take (tw reg (l.drop k))), zero)
  else (0, ⟨8, 0, (l.drop k).take (tw reg (l.drop k)), false, 0, k + tw reg (l.drop k)⟩)

/-- A reader's answer as a token of a kind. -/
def ofR3 (kind : Int) (x : R3) : Int × Tok := if x.1 = 0 then (0, ⟨kind, 0, x.2.1, false, 0, x.2.2⟩) else (x.1, zero)

/-- The token that begins right at a place, without where it begins. -/
def tokV (l : List UInt8) (k : Nat) : Int × Tok :=
  match l.drop k with
  | [] => (0, ⟨0, 0, [], false, 0, k⟩)
  | b :: r =>
    if b == 91 then (0, ⟨4, 0, [], false, 0, k + 1⟩)
    else if b == 93 then (0, ⟨5, 0, [], false, 0, k + 1⟩)
    else if b == 60 then (if r.head? == some 60 then (0, ⟨6, 0, [], false, 0, k + 2⟩) else ofR3 3 (hexGo [] none r (k + 1)))
    else if b == 62 then (if r.head? == some 62 then (0, ⟨7, 0, [], false, 0, k + 2⟩) else (3, zero))
    else if b == 47 then ofR3 2 (nameGo [] 0 r (k + 1))
    else if b == 40 then ofR3 3 (textGo [] 0 0 r (k + 1))
    else if b == 41 || b == 123 || b == 125 then (3, zero)
    else wordV l k

/-- Next. -/
def nextV (l : List UInt8) (at_ : Int) : Int × Tok :=
  if 0 ≤ at_ ∧ at_ ≤ l.length then
    if (tokV l (spaceV l at_)).1 = 0 then (0, { (tokV l (spaceV l at_)).2 with frm := spaceV l at_ }) else ((tokV l (spaceV l at_)).1, zero)
  else (1, zero)

/-- A byte of a text as Quote tells it. -/
def octD (n : Nat) : UInt8 := UInt8.ofNat (48 + n)
def quoteB (b : UInt8) : List UInt8 :=
  if b == 40 || b == 41 || b == 92 then [92, b]
  else if b == 10 then [92, 110] else if b == 13 then [92, 114] else if b == 9 then [92, 116] else if b == 8 then [92, 98] else if b == 12 then [92, 102]
  else if printed b then [b]
  else [92, octD (b.toNat / 64), octD (b.toNat / 8 % 8), octD (b.toNat % 8)]
def quoteV (l : List UInt8) : List UInt8 := 40 :: (l.flatMap quoteB ++ [41])

def hexD (n : Nat) : UInt8 := if n < 10 then UInt8.ofNat (48 + n) else UInt8.ofNat (55 + n)
def nameB (b : UInt8) : List UInt8 := if reg b && b != 35 && printed b then [b] else [35, hexD (b.toNat / 16), hexD (b.toNat % 16)]
def nameV (l : List UInt8) : List UInt8 := 47 :: l.flatMap nameB

end Go.Proofs.YtbgdeaeikijdgaaGreatDoor.Lx

namespace Go.Proofs.YtbgdeaeikijdgaaGreatDoor.Cx

inductive Ob where
  | mk (k n f : Int) (s : ByteArray) (l : List Ob) (d : List (ByteArray × Ob))

abbrev Entr := ByteArray × Ob
def Ob.k : Ob → Int | .mk k _ _ _ _ _ => k
def Ob.n : Ob → Int | .mk _ n _ _ _ _ => n
def Ob.f : Ob → Int | .mk _ _ f _ _ _ => f
def Ob.s : Ob → ByteArray | .mk _ _ _ s _ _ => s
def Ob.l : Ob → List Ob | .mk _ _ _ _ l _ => l
def Ob.d : Ob → List Entr | .mk _ _ _ _ _ d => d
theorem Ob.eta (o : Ob) : o = .mk o.k o.n o.f o.s o.l o.d := by cases o; rfl
def nul : Ob := .mk 0 0 0 ⟨#[]⟩ [] []
def Ob.ents (o : Ob) : Bool := o.k == 6 || o.k == 8

/-- Texts are held against each other as the program does. -/
def keq (a b : ByteArray) : Bool := a.toList == b.toList
theorem toList_inj {a b : ByteArray} (h : a.toList = b.toList) : a = b := by
  rw [Lib.toList_data, Lib.toList_data] at h
  have h1 := Array.toList_inj.1 h
  cases a; cases b; simp only at h1; rw [h1]
theorem keq_iff {a b : ByteArray} : keq a b = true ↔ a = b := by
  unfold keq; rw [beq_iff_eq]; exact ⟨toList_inj, fun h => by rw [h]⟩
theorem keq_self (a : ByteArray) : keq a a = true := keq_iff.2 rfl
theorem keq_comm (a b : ByteArray) : keq a b = keq b a := by
  rw [Bool.eq_iff_iff, keq_iff, keq_iff]; exact eq_comm
theorem keq_no {a b : ByteArray} (h : a ≠ b) : keq a b = false := by
  cases e : keq a b
  · rfl
  · exact absurd (keq_iff.1 e) h

/-- The first entry's object of a key. -/
def getD : List Entr → ByteArray → Ob
  | [], _ => nul
  | e :: r, key => if keq e.1 key then e.2 else getD r key
def hasK : List Entr → ByteArray → Bool
  | [], _ => false
  | e :: r, key => keq e.1 key || hasK r key
/-- Where the first entry of a key stands; the length, if there is none. -/
def idxK : List Entr → ByteArray → Nat
  | [], _ => 0
  | e :: r, key => if keq e.1 key then 0 else idxK r key + 1
def get (o : Ob) (key : ByteArray) : Ob := if o.ents then getD o.d key else nul

/-- Set's loop: is it set already? what is left. -/
def setGo (key : ByteArray) (v : Ob) : Bool → List Entr → List Entr
  | set, [] => if set then [] else [(key, v)]
  | set, e :: r => if keq e.1 key then (if set then setGo key v set r else (key, v) :: setGo key v true r) else e :: setGo key v set r
def setD (d : List Entr) (key : ByteArray) (v : Ob) : List Entr := setGo key v (v.k == 0) d
def set (o : Ob) (key : ByteArray) (v : Ob) : Ob := if o.ents then .mk o.k o.n o.f o.s o.l (setD o.d key v) else o

mutual
def Ob.count : Ob → Nat
  | .mk k _ _ _ l d => 1 + (if k = 5 then countL l else 0) + (if k = 6 ∨ k = 8 then countD d else 0)
def countL : List Ob → Nat
  | [] => 0
  | x :: r => x.count + countL r
def countD : List (ByteArray × Ob) → Nat
  | [] => 0
  | (_, x) :: r => x.count + countD r
end

theorem count_mk (k n f : Int) (s : ByteArray) (l : List Ob) (d : List Entr) : (Ob.mk k n f s l d).count = 1 + (if k = 5 then countL l else 0) + (if k = 6 ∨ k = 8 then countD d else 0) := by rw [Ob.count]
theorem countL_cons (x : Ob) (r : List Ob) : countL (x :: r) = x.count + countL r := by rw [countL]
theorem countD_cons (e : Entr) (r : List Entr) : countD (e :: r) = e.2.count + countD r := by cases e; rw [countD]
theorem countL_append : ∀ a b : List Ob, countL (a ++ b) = countL a + countL b
  | [], b => by rw [List.nil_append, countL, Nat.zero_add]
  | x :: a, b => by rw [List.cons_append, countL, countL, countL_append a b]; omega
theorem countD_append : ∀ a b : List Entr, countD (a ++ b) = countD a + countD b
  | [], b => by rw [List.nil_append, countD, Nat.zero_add]
  | x :: a, b => by rw [List.cons_append, countD_cons, countD_cons, countD_append a b]; omega
theorem countL_take_succ (l : List Ob) (i : Nat) (h : i < l.length) : countL (l.take (i + 1)) = countL (l.take i) + l[i].count := by
  rw [List.take_succ_eq_append_getElem h, countL_append, countL_cons, countL]; omega
theorem countD_take_succ (l : List Entr) (i : Nat) (h : i < l.length) : countD (l.take (i + 1)) = countD (l.take i) + l[i].2.count := by
  rw [List.take_succ_eq_append_getElem h, countD_append, countD_cons, countD]; omega
theorem countL_take_le (l : List Ob) (i : Nat) : countL (l.take i) ≤ countL l := by
  have := countL_append (l.take i) (l.drop i)
  rw [List.take_append_drop] at this; omega
theorem countD_take_le (l : List Entr) (i : Nat) : countD (l.take i) ≤ countD l := by
  have := countD_append (l.take i) (l.drop i)
  rw [List.take_append_drop] at this; omega
theorem countL_mem_le {l : List Ob} {x : Ob} (h : x ∈ l) : x.count ≤ countL l := by
  induction l with
  | nil => simp at h
  | cons y r ih =>
    rw [countL_cons]
    rcases List.mem_cons.1 h with rfl | h
    · omega
    · have := ih h; omega
theorem countD_mem_le {l : List Entr} {x : Entr} (h : x ∈ l) : x.2.count ≤ countD l := by
  induction l with
  | nil => simp at h
  | cons y r ih =>
    rw [countD_cons]
    rcases List.mem_cons.1 h with rfl | h
    · omega
    · have := ih h; omega

theorem sizeOf_l {o x : Ob} (h : x ∈ o.l) : SizeOf.sizeOf x < SizeOf.sizeOf o := by
  cases o
  have := List.sizeOf_lt_of_mem h
  simp only [Ob.l] at this
  simp only [Ob.mk.sizeOf_spec]; omega
theorem sizeOf_d {o : Ob} {e : Entr} (h : e ∈ o.d) : SizeOf.sizeOf e.2 < SizeOf.sizeOf o := by
  cases o
  have h1 := List.sizeOf_lt_of_mem h
  simp only [Ob.d] at h1
  have h2 : SizeOf.sizeOf e.2 < SizeOf.sizeOf e := by cases e; simp; omega
  simp only [Ob.mk.sizeOf_spec]; omega

/- The text's own side. -/
open Lx

def wholeT (t : Tok) : Bool := t.kind == 1 && t.whole && decide (0 ≤ t.f)
def isW (t : Tok) (s : List UInt8) : Bool := t.kind == 8 && t.s == s
def str (l : List UInt8) : ByteArray := ⟨l.toArray⟩
def numV (t : Tok) : Ob := .mk 2 (if t.whole then 1 else 0) t.f ⟨#[]⟩ [] []
/-- A token, as a reader that forgets errors takes it. -/
def tokOf (x : Int × Tok) : Tok := if x.1 = 0 then x.2 else zero
/-- A Num or a Ref, and the place behind. -/
def numberV (l : List UInt8) (t : Tok) : Ob × Nat :=
  if wholeT t then
    if wholeT (tokOf (nextV l t.to)) then
      if isW (tokOf (nextV l (tokOf (nextV l t.to)).to)) [82] then (.mk 7 (t.f.tdiv 1000) (tokOf (nextV l t.to)).f ⟨#[]⟩ [] [], (tokOf (nextV l (tokOf (nextV l t.to)).to)).to)
      else (numV t, t.to)
    else (numV t, t.to)
  else (numV t, t.to)
def wordV (s : List UInt8) : Int × Ob :=
  if s == [116, 114, 117, 101] then (0, .mk 1 1 0 ⟨#[]⟩ [] [])
  else if s == [102, 97, 108, 115, 101] then (0, .mk 1 0 0 ⟨#[]⟩ [] [])
  else if s == [110, 117, 108, 108] then (0, nul)
  else (3, nul)
/-- Entries as they were written, settled. -/
def settle (d : List Entr) : List Entr := d.foldl (fun a e => setD a e.1 e.2) []

mutual
/-- The object that begins with a token; fuel, and how deep. -/
def objOf : Nat → List UInt8 → Nat → Tok → Int × Ob × Nat
  | 0, _, _, _ => (3, nul, 0)
  | F + 1, l, dep, t =>
    if t.kind = 0 then (4, nul, 0)
    else if t.kind = 1 then (0, (numberV l t).1, (numberV l t).2)
    else if t.kind = 2 then (0, .mk 3 0 0 (str t.s) [] [], t.to)
    else if t.kind = 3 then (0, .mk 4 0 0 (str t.s) [] [], t.to)
    else if t.kind = 8 then ((wordV t.s).1, (wordV t.s).2, if (wordV t.s).1 = 0 then t.to else 0)
    else if t.kind = 4 then
      if dep = 64 then (5, nul, 0)
      else if (upO F l (dep + 1) [] t.to).1 = 0 then (0, .mk 5 0 0 ⟨#[]⟩ (upO F l (dep + 1) [] t.to).2.1 [], (upO F l (dep + 1) [] t.to).2.2)
      else ((upO F l (dep + 1) [] t.to).1, nul, 0)
    else if t.kind = 6 then
      if dep = 64 then (5, nul, 0)
      else if (upE F l (dep + 1) [] t.to).1 = 0 then (0, .mk 6 0 0 ⟨#[]⟩ [] (settle (upE F l (dep + 1) [] t.to).2.1), (upE F l (dep + 1) [] t.to).2.2)
      else ((upE F l (dep + 1) [] t.to).1, nul, 0)
    else (3, nul, 0)
/-- Objects up to Close. -/
def upO : Nat → List UInt8 → Nat → List Ob → Nat → Int × List Ob × Nat
  | 0, _, _, _, _ => (3, [], 0)
  | F + 1, l, dep, acc, at_ =>
    if (nextV l at_).1 ≠ 0 then ((nextV l at_).1, [], 0)
    else if (nextV l at_).2.kind = 5 then (0, acc, (nextV l at_).2.to)
    else if (nextV l at_).2.kind = 0 then (4, [], 0)
    else if acc.length = 1024 then (6, [], 0)
    else if (objOf F l dep (nextV l at_).2).1 = 0 then upO F l dep (acc ++ [(objOf F l dep (nextV l at_).2).2.1]) (objOf F l dep (nextV l at_).2).2.2
    else ((objOf F l dep (nextV l at_).2).1, [], 0)
/-- Entries up to Finish. -/
def upE : Nat → List UInt8 → Nat → List Entr → Nat → Int × List Entr × Nat
  | 0, _, _, _, _ => (3, [], 0)
  | F + 1, l, dep, acc, at_ =>
    if (nextV l at_).1 ≠ 0 then ((nextV l at_).1, [], 0)
    else if (nextV l at_).2.kind = 7 then (0, acc, (nextV l at_).2.to)
    else if (nextV l at_).2.kind = 0 then (4, [], 0)
    else if acc.length = 1024 then (6, [], 0)
    else if (entOf F l dep (nextV l at_).2).1 = 0 then upE F l dep (acc ++ [(entOf F l dep (nextV l at_).2).2.1]) (entOf F l dep (nextV l at_).2).2.2
    else ((entOf F l dep (nextV l at_).2).1, [], 0)
/-- The entry whose key is a token. -/
def entOf : Nat → List UInt8 → Nat → Tok → Int × Entr × Nat
  | 0, _, _, _ => (3, (⟨#[]⟩, nul), 0)
  | F + 1, l, dep, t =>
    if t.kind ≠ 2 then (3, (⟨#[]⟩, nul), 0)
    else if (nextV l t.to).1 ≠ 0 then ((nextV l t.to).1, (⟨#[]⟩, nul), 0)
    else if (objOf F l dep (nextV l t.to).2).1 = 0 then (0, (str t.s, (objOf F l dep (nextV l t.to).2).2.1), (objOf F l dep (nextV l t.to).2).2.2)
    else ((objOf F l dep (nextV l t.to).2).1, (⟨#[]⟩, nul), 0)
end

/-- The object at a place, and the place behind it. -/
def parse (l : List UInt8) (at_ : Int) : Int × Ob × Nat :=
  if (nextV l at_).1 ≠ 0 then ((nextV l at_).1, nul, 0)
  else objOf (3 * l.length + 2) l 0 (nextV l at_).2

end Go.Proofs.YtbgdeaeikijdgaaGreatDoor.Cx

namespace Go.Proofs.YtbgdeaeikijdgaaGreatDoor.Cx

mutual
def Ob.same : Ob → Ob → Bool
  | .mk k n f s l d, b => k == b.k && f == b.f && keq s b.s && (n == b.n || k == 2) && sameL l b.l && (nkGo [] d == nkGo [] b.d && sameE [] d b.d)
def sameL : List Ob → List Ob → Bool
  | [], [] => true
  | x :: r, y :: q => x.same y && sameL r q
  | [], _ :: _ => false
  | _ :: _, [] => false
/-- Each entry that is the first one of its key has one that is the same. -/
def sameE : List (ByteArray × Ob) → List (ByteArray × Ob) → List (ByteArray × Ob) → Bool
  | _, [], _ => true
  | seen, (key, x) :: r, b => (hasK seen key || (hasK b key && x.same (getD b key))) && sameE (seen ++ [(key, x)]) r b
/-- How many keys there are. -/
def nkGo : List (ByteArray × Ob) → List (ByteArray × Ob) → Nat
  | _, [] => 0
  | seen, (key, x) :: r => (if hasK seen key then 0 else 1) + nkGo (seen ++ [(key, x)]) r
end

theorem same_mk (k n f : Int) (s : ByteArray) (l : List Ob) (d : List Entr) (b : Ob) : (Ob.mk k n f s l d).same b = (k == b.k && f == b.f && keq s b.s && (n == b.n || k == 2) && sameL l b.l && (nkGo [] d == nkGo [] b.d && sameE [] d b.d)) := by rw [Ob.same]
theorem same_eq (a b : Ob) : a.same b = (a.k == b.k && a.f == b.f && keq a.s b.s && (a.n == b.n || a.k == 2) && sameL a.l b.l && (nkGo [] a.d == nkGo [] b.d && sameE [] a.d b.d)) := by
  obtain ⟨k, n, f, s, l, d⟩ := a
  exact same_mk k n f s l d b
theorem sameE_cons (seen : List Entr) (e : Entr) (r b : List Entr) : sameE seen (e :: r) b = ((hasK seen e.1 || (hasK b e.1 && e.2.same (getD b e.1))) && sameE (seen ++ [e]) r b) := by cases e; rw [sameE]
theorem nkGo_cons (seen : List Entr) (e : Entr) (r : List Entr) : nkGo seen (e :: r) = (if hasK seen e.1 then 0 else 1) + nkGo (seen ++ [e]) r := by cases e; rw [nkGo]
theorem sameL_len : ∀ a b : List Ob, a.length ≠ b.length → sameL a b = false
  | [], [], h => absurd rfl h
  | x :: r, y :: q, h => by rw [sameL, sameL_len r q (by simpa using h), Bool.and_false]
  | [], _ :: _, _ => by rw [sameL]
  | _ :: _, [], _ => by rw [sameL]
theorem sameL_step (a b : List Ob) (i : Nat) (h1 : i < a.length) (h2 : i < b.length) : sameL (a.drop i) (b.drop i) = (a[i].same b[i] && sameL (a.drop (i + 1)) (b.drop (i + 1))) := by
  rw [List.drop_eq_getElem_cons h1, List.drop_eq_getElem_cons h2, sameL]

theorem hasK_append : ∀ (a b : List Entr) (key : ByteArray), hasK (a ++ b) key = (hasK a key || hasK b key)
  | [], b, key => by rw [List.nil_append, hasK, Bool.false_or]
  | e :: r, b, key => by rw [List.cons_append, hasK, hasK, hasK_append r b key, Bool.or_assoc]
theorem idxK_append_l : ∀ (a b : List Entr) (key : ByteArray), hasK a key = true → idxK (a ++ b) key = idxK a key
  | [], b, key, h => by rw [hasK] at h; cases h
  | e :: r, b, key, h => by
    rw [List.cons_append, idxK, idxK]
    rw [hasK] at h
    cases he : keq e.1 key
    · rw [he, Bool.false_or] at h
      rw [idxK_append_l r b key h]
    · simp
theorem idxK_append_r : ∀ (a b : List Entr) (key : ByteArray), hasK a key = false → idxK (a ++ b) key = a.length + idxK b key
  | [], b, key, h => by simp
  | e :: r, b, key, h => by
    rw [hasK, Bool.or_eq_false_iff] at h
    rw [List.cons_append, idxK, h.1, idxK_append_r r b key h.2, List.length_cons]
    simp; omega
theorem idxK_lt : ∀ (d : List Entr) (key : ByteArray), hasK d key = true → idxK d key < d.length
  | [], key, h => by rw [hasK] at h; cases h
  | e :: r, key, h => by
    rw [hasK] at h
    rw [idxK, List.length_cons]
    cases he : keq e.1 key
    · rw [he, Bool.false_or] at h
      have := idxK_lt r key h
      simp; omega
    · simp
theorem getD_idx : ∀ (d : List Entr) (key : ByteArray) (h : idxK d key < d.length), d[idxK d key].1 = key ∧ d[idxK d key].2 = getD d key
  | [], key, h => absurd h (Nat.not_lt_zero _)
  | e :: r, key, h => by
    cases he : keq e.1 key
    · have e1 : idxK (e :: r) key = idxK r key + 1 := by rw [idxK, he]; rfl
      have h' : idxK r key < r.length := by rw [e1, List.length_cons] at h; omega
      have ih := getD_idx r key h'
      have e2 : getD (e :: r) key = getD r key := by rw [getD, he]; rfl
      rw [e2]
      simp only [e1, List.getElem_cons_succ]
      exact ih
    · have e1 : idxK (e :: r) key = 0 := by rw [idxK, he]; rfl
      have e2 : getD (e :: r) key = e.2 := by rw [getD, he]; rfl
      rw [e2]
      simp only [e1, List.getElem_cons_zero]
      exact ⟨keq_iff.1 he, trivial⟩

/-- Where each key's first entry stands. -/
def fstJ (d : List Entr) (key : ByteArray) : Option Nat := if hasK d key then some (idxK d key) else none
theorem fstJ_nil : fstJ [] = fun _ => none := by funext k; rfl
theorem hasK_self (e : Entr) : hasK [e] e.1 = true := by rw [hasK, keq_self]; rfl
theorem fstJ_old {d : List Entr} {e : Entr} (h : hasK d e.1 = true) : fstJ (d ++ [e]) = fstJ d := by
  funext k
  unfold fstJ
  rw [hasK_append]
  cases hk : hasK d k
  · have hne : keq e.1 k = false := by
      cases he : keq e.1 k
      · rfl
      · rw [← keq_iff.1 he, h] at hk; cases hk
    rw [hasK, hne, hasK]; rfl
  · rw [idxK_append_l d [e] k hk]; simp
theorem fstJ_new {d : List Entr} {e : Entr} (h : hasK d e.1 = false) : fstJ (d ++ [e]) = fun k => if k = e.1 then some d.length else fstJ d k := by
  funext k
  unfold fstJ
  rw [hasK_append]
  by_cases hk : k = e.1
  · rw [if_pos hk, hk, h, hasK_self, idxK_append_r d [e] e.1 h, idxK, keq_self]; simp
  · rw [if_neg hk, hasK, keq_no (fun e' => hk e'.symm), hasK, Bool.or_false, Bool.or_false]
    cases hd : hasK d k
    · rfl
    · rw [idxK_append_l d [e] k hd]
theorem fstJ_some {d : List Entr} {key : ByteArray} {j : Nat} (h : fstJ d key = some j) : hasK d key = true ∧ j = idxK d key ∧ ∃ hj : j < d.length, d[j].2 = getD d key := by
  unfold fstJ at h
  cases hk : hasK d key
  · rw [hk] at h; cases h
  · rw [hk, if_pos rfl] at h
    injection h with h
    subst h
    exact ⟨rfl, rfl, idxK_lt d key hk, (getD_idx d key (idxK_lt d key hk)).2⟩
theorem fstJ_none {d : List Entr} {key : ByteArray} (h : fstJ d key = none) : hasK d key = false := by
  unfold fstJ at h
  cases hk : hasK d key
  · rfl
  · rw [hk] at h; cases h
theorem hasK_mem : ∀ {d : List Entr} {e : Entr}, e ∈ d → hasK d e.1 = true
  | [], _, h => absurd h List.not_mem_nil
  | x :: r, e, h => by
    rw [hasK]
    rcases List.mem_cons.1 h with rfl | h
    · rw [keq_self, Bool.true_or]
    · rw [hasK_mem h, Bool.or_true]
theorem hasK_at (d : List Entr) (i : Nat) (hi : i < d.length) : hasK d d[i].1 = true := hasK_mem (List.getElem_mem hi)
theorem fstJ_at (d : List Entr) (i : Nat) (hi : i < d.length) : fstJ d d[i].1 = some i ↔ hasK (d.take i) d[i].1 = false := by
  have hsp : d = d.take i ++ d[i] :: d.drop (i + 1) := by rw [← List.drop_eq_getElem_cons hi, List.take_append_drop]
  have hlen : (d.take i).length = i := by rw [List.length_take]; omega
  unfold fstJ
  rw [hasK_at d i hi, if_pos rfl]
  cases ht : hasK (d.take i) d[i].1
  · simp only [iff_true]
    have : idxK d d[i].1 = i := by
      conv => lhs; arg 1; rw [hsp]
      rw [idxK_append_r _ _ _ ht, hlen, idxK, keq_self]; simp
    rw [this]
  · simp only [Bool.true_eq_false, iff_false]
    intro e
    injection e with e
    have h1 : idxK d d[i].1 = idxK (d.take i) d[i].1 := by
      conv => lhs; arg 1; rw [hsp]
      rw [idxK_append_l _ _ _ ht]
    have h2 := idxK_lt _ _ ht
    rw [hlen] at h2
    omega
theorem nkGo_snoc (e : Entr) : ∀ (a seen : List Entr), nkGo seen (a ++ [e]) = nkGo seen a + (if hasK (seen ++ a) e.1 then 0 else 1)
  | [], seen => by rw [List.nil_append, nkGo_cons, nkGo, nkGo, List.append_nil]; omega
  | x :: r, seen => by
    rw [List.cons_append, nkGo_cons, nkGo_cons, nkGo_snoc e r (seen ++ [x]), List.append_assoc]
    simp only [List.cons_append, List.nil_append]; omega
theorem nkGo_le : ∀ (a seen : List Entr), nkGo seen a ≤ a.length
  | [], seen => by rw [nkGo]; exact Nat.zero_le _
  | x :: r, seen => by
    rw [nkGo_cons, List.length_cons]
    have := nkGo_le r (seen ++ [x])
    split <;> omega
theorem sameE_step (a b : List Entr) (i : Nat) (hi : i < a.length) : sameE (a.take i) (a.drop i) b = ((hasK (a.take i) a[i].1 || (hasK b a[i].1 && a[i].2.same (getD b a[i].1))) && sameE (a.take (i + 1)) (a.drop (i + 1)) b) := by
  rw [List.drop_eq_getElem_cons hi, sameE_cons, ← List.take_succ_eq_append_getElem hi]

end Go.Proofs.YtbgdeaeikijdgaaGreatDoor.Cx

namespace Go.Proofs.YtbgdeaeikijdgaaGreatDoor.Cx

/-- Whole: without thousandths. -/
def wholeF (f : Int) : Bool := f.tmod 1000 == 0
/-- Has each entry an object, and a key of its own? -/
def senseD : List Entr → List Entr → Bool
  | _, [] => true
  | seen, e :: r => if hasK seen e.1 || e.2.k == 0 then false else senseD (seen ++ [e]) r
def Ob.sense (o : Ob) : Bool :=
  if o.k = 0 ∨ o.k = 3 ∨ o.k = 4 ∨ o.k = 5 then true
  else if o.k = 1 then o.n == 0 || o.n == 1
  else if o.k = 2 then o.n == 0 || (o.n == 1 && wholeF o.f)
  else if o.k = 7 then decide (0 ≤ o.n) && (decide (0 ≤ o.f) && wholeF o.f)
  else if o.k = 6 ∨ o.k = 8 then senseD [] o.d
  else false
def Ob.inRange (o : Ob) : Bool :=
  if o.k = 2 then Fx.saneB o.f
  else if o.k = 7 then Fx.saneB o.f && decide (o.n ≤ 2147483)
  else true
def Ob.many (o : Ob) : Bool := (o.k == 5 && decide (1024 < o.l.length)) || (o.ents && decide (1024 < o.d.length))
def Ob.nest (o : Ob) : Bool := o.k == 5 || o.ents
/-- Of an object itself, so many deep. -/
def own (o : Ob) (dep : Nat) : Int :=
  if !o.sense || (o.k == 8 && decide (0 < dep)) then 1 else if !o.inRange then 2 else if o.many then 6 else if o.nest && decide (64 ≤ dep) then 5 else 0

mutual
def Ob.sane : Ob → Nat → Int
  | .mk k n f s l d, dep => if own (.mk k n f s l d) dep ≠ 0 then own (.mk k n f s l d) dep else if k = 5 then saneL l (dep + 1) else if k = 6 ∨ k = 8 then saneE d (dep + 1) else 0
def saneL : List Ob → Nat → Int
  | [], _ => 0
  | x :: r, dep => if x.sane dep ≠ 0 then x.sane dep else saneL r dep
def saneE : List (ByteArray × Ob) → Nat → Int
  | [], _ => 0
  | (_, x) :: r, dep => if x.sane dep ≠ 0 then x.sane dep else saneE r dep
end

def nullT : List UInt8 := [110, 117, 108, 108]
def trueT : List UInt8 := [116, 114, 117, 101]
def falseT : List UInt8 := [102, 97, 108, 115, 101]
def numT (n f : Int) : List UInt8 := Fx.printL f ++ (if n = 0 ∧ wholeF f = true then [46, 48] else [])
mutual
/-- An object that may be, as a text. -/
def Ob.text : Ob → List UInt8
  | .mk k n f s l d =>
    if k = 0 then nullT
    else if k = 1 then (if n = 1 then trueT else falseT)
    else if k = 2 then numT n f
    else if k = 3 then Lx.nameV s.data.toList
    else if k = 4 then Lx.quoteV s.data.toList
    else if k = 5 then 91 :: (textL false l ++ [93])
    else if k = 6 then [60, 60] ++ textD false d ++ [62, 62]
    else if k = 7 then Lib.itoa n ++ [32] ++ Fx.printL f ++ [32, 82]
    else if k = 8 then ([60, 60] ++ textD false d ++ [62, 62]) ++ ([10, 115, 116, 114, 101, 97, 109, 10] ++ s.data.toList ++ [10, 101, 110, 100, 115, 116, 114, 101, 97, 109])
    else []
def textL : Bool → List Ob → List UInt8
  | _, [] => []
  | b, x :: r => (if b then [32] else []) ++ x.text ++ textL true r
def textD : Bool → List (ByteArray × Ob) → List UInt8
  | _, [] => []
  | b, (key, x) :: r => (if b then [32] else []) ++ (Lx.nameV key.data.toList ++ [32]) ++ x.text ++ textD true r
end

theorem sane_mk (k n f : Int) (s : ByteArray) (l : List Ob) (d : List Entr) (dep : Nat) : (Ob.mk k n f s l d).sane dep = if own (.mk k n f s l d) dep ≠ 0 then own (.mk k n f s l d) dep else if k = 5 then saneL l (dep + 1) else if k = 6 ∨ k = 8 then saneE d (dep + 1) else 0 := by rw [Ob.sane]
theorem sane_eq (o : Ob) (dep : Nat) : o.sane dep = if own o dep ≠ 0 then own o dep else if o.k = 5 then saneL o.l (dep + 1) else if o.k = 6 ∨ o.k = 8 then saneE o.d (dep + 1) else 0 := by
  obtain ⟨k, n, f, s, l, d⟩ := o
  exact sane_mk k n f s l d dep
theorem saneL_nil (dep : Nat) : saneL [] dep = 0 := by rw [saneL]
theorem saneE_nil (dep : Nat) : saneE [] dep = 0 := by rw [saneE]
theorem saneL_cons (x : Ob) (r : List Ob) (dep : Nat) : saneL (x :: r) dep = if x.sane dep ≠ 0 then x.sane dep else saneL r dep := by rw [saneL]
theorem saneE_cons (e : Entr) (r : List Entr) (dep : Nat) : saneE (e :: r) dep = if e.2.sane dep ≠ 0 then e.2.sane dep else saneE r dep := by cases e; rw [saneE]
theorem saneL_step (l : List Ob) (i : Nat) (h : i < l.length) (dep : Nat) : saneL (l.drop i) dep = if l[i].sane dep ≠ 0 then l[i].sane dep else saneL (l.drop (i + 1)) dep := by
  rw [List.drop_eq_getElem_cons h, saneL_cons]
theorem saneE_step (l : List Entr) (i : Nat) (h : i < l.length) (dep : Nat) : saneE (l.drop i) dep = if l[i].2.sane dep ≠ 0 then l[i].2.sane dep else saneE (l.drop (i + 1)) dep := by
  rw [List.drop_eq_getElem_cons h, saneE_cons]
theorem senseD_step (d : List Entr) (i : Nat) (h : i < d.length) : senseD (d.take i) (d.drop i) = if hasK (d.take i) d[i].1 || d[i].2.k == 0 then false else senseD (d.take (i + 1)) (d.drop (i + 1)) := by
  rw [List.drop_eq_getElem_cons h, senseD, ← List.take_succ_eq_append_getElem h]
theorem own_vals (o : Ob) (dep : Nat) : own o dep = 0 ∨ own o dep = 1 ∨ own o dep = 2 ∨ own o dep = 5 ∨ own o dep = 6 := by
  unfold own
  split
  · simp
  · split
    · simp
    · split
      · simp
      · split <;> simp

theorem text_mk (k n f : Int) (s : ByteArray) (l : List Ob) (d : List Entr) : (Ob.mk k n f s l d).text =
    if k = 0 then nullT
    else if k = 1 then (if n = 1 then trueT else falseT)
    else if k = 2 then numT n f
    else if k = 3 then Lx.nameV s.data.toList
    else if k = 4 then Lx.quoteV s.data.toList
    else if k = 5 then 91 :: (textL false l ++ [93])
    else if k = 6 then [60, 60] ++ textD false d ++ [62, 62]
    else if k = 7 then Lib.itoa n ++ [32] ++ Fx.printL f ++ [32, 82]
    else if k = 8 then ([60, 60] ++ textD false d ++ [62, 62]) ++ ([10, 115, 116, 114, 101, 97, 109, 10] ++ s.data.toList ++ [10, 101, 110, 100, 115, 116, 114, 101, 97, 109])
    else [] := by rw [Ob.text]
theorem textL_nil (b : Bool) : textL b [] = [] := by rw [textL]
theorem textD_nil (b : Bool) : textD b [] = [] := by rw [textD]
theorem textL_cons (b : Bool) (x : Ob) (r : List Ob) : textL b (x :: r) = (if b then [32] else []) ++ x.text ++ textL true r := by rw [textL]
theorem textD_cons (b : Bool) (e : Entr) (r : List Entr) : textD b (e :: r) = (if b then [32] else []) ++ (Lx.nameV e.1.data.toList ++ [32]) ++ e.2.text ++ textD true r := by cases e; rw [textD]
theorem textL_step (l : List Ob) (i : Nat) (h : i < l.length) : textL (decide (0 < i)) (l.drop i) = (if 0 < i then [32] else []) ++ l[i].text ++ textL (decide (0 < i + 1)) (l.drop (i + 1)) := by
  rw [List.drop_eq_getElem_cons h, textL_cons]
  simp
theorem textD_step (l : List Entr) (i : Nat) (h : i < l.length) : textD (decide (0 < i)) (l.drop i) = (if 0 < i then [32] else []) ++ (Lx.nameV l[i].1.data.toList ++ [32]) ++ l[i].2.text ++ textD (decide (0 < i + 1)) (l.drop (i + 1)) := by
  rw [List.drop_eq_getElem_cons h, textD_cons]
  simp

end Go.Proofs.YtbgdeaeikijdgaaGreatDoor.Cx

namespace Go.Proofs.YtbgdeaeikijdgaaGreatDoor.Lx

/-- An answer, n bytes further on. -/
def add3 (n : Nat) (x : R3) : R3 := if x.1 = 0 then (x.1, x.2.1, x.2.2 + n) else x

theorem name_shift (n : Nat) (acc : List UInt8) (m : Nat) (l : List UInt8) (k : Nat) : nameGo acc m l (k + n) = add3 n (nameGo acc m l k) := by
  fun_induction nameGo acc m l k with
  | case1 => unfold nameGo; rfl
  | case2 acc k m b r ih => rw [nameGo, ← ih]; congr 1; omega
  | case3 acc k b h1 h2 a c tail h3 ih =>
    rw [nameGo.eq_def]; simp only [h1, h2, h3, if_true]; rw [← ih]; congr 1; omega
  | case4 acc k b h1 h2 a c tail h3 =>
    rw [nameGo.eq_def]; simp only [h1, h2, h3, if_true, if_false, Bool.false_eq_true]; rfl
  | case5 acc b r k h1 h2 h3 =>
    rw [nameGo.eq_def]; simp only [h1, h2, if_true]
    match r, h3 with
    | [], _ => rfl
    | [_], _ => rfl
    | x :: y :: z, h3 => exact absurd rfl (h3 x y z)
  | case6 acc k b r h1 h2 ih =>
    rw [nameGo.eq_def]; simp only [h1, h2, if_true, if_false, Bool.false_eq_true]; rw [← ih]; congr 1; omega
  | case7 acc k b r h1 =>
    rw [nameGo.eq_def]; simp only [h1, if_false, Bool.false_eq_true]; rfl

theorem text_shift (n : Nat) (acc : List UInt8) (d m : Nat) (l : List UInt8) (k : Nat) : textGo acc d m l (k + n) = add3 n (textGo acc d m l k) := by
  fun_induction textGo acc d m l k with
  | case1 => unfold textGo; rfl
  | case2 acc d k m b r ih => rw [textGo, ← ih]; congr 1; omega
  | case3 acc d k b r h1 ih => rw [textGo.eq_def]; simp only [h1, if_true]; rw [← ih]; congr 1; omega
  | case4 acc d k b r h1 h2 ih => rw [textGo.eq_def]; simp only [h1, h2, if_true, if_false, Bool.false_eq_true]; rw [← ih]; congr 1; omega
  | case5 acc k b r h1 h2 h3 => rw [textGo.eq_def]; simp only [h1, h2, h3, if_true, if_false, Bool.false_eq_true]; unfold add3; simp; omega
  | case6 acc k b r h1 h2 h3 d ih => rw [textGo.eq_def]; simp only [h1, h2, h3, if_true, if_false, Bool.false_eq_true]; rw [← ih]; congr 1; omega
  | case7 acc d k b r h1 h2 h3 h4 ih => rw [textGo.eq_def]; simp only [h1, h2, h3, h4, if_true, if_false, Bool.false_eq_true]; rw [← ih]; congr 1; omega
  | case8 acc d k b r h1 h2 h3 h4 ih => rw [textGo.eq_def]; simp only [h1, h2, h3, h4, if_false, Bool.false_eq_true]; rw [← ih]; congr 1; omega

theorem hex_shift (n : Nat) (acc : List UInt8) (h : Option UInt8) (l : List UInt8) (k : Nat) : hexGo acc h l (k + n) = add3 n (hexGo acc h l k) := by
  fun_induction hexGo acc h l k with
  | case1 => unfold hexGo; rfl
  | case2 acc h b r k h1 => rw [hexGo.eq_def]; simp only [h1, if_true]; unfold add3; simp; omega
  | case3 acc h b r k h1 h2 ih => rw [hexGo.eq_def]; simp only [h1, h2, if_true, if_false, Bool.false_eq_true]; rw [← ih]; congr 1; omega
  | case4 acc b r k h1 h2 h3 ih => rw [hexGo.eq_def]; simp only [h1, h2, h3, if_true, if_false, Bool.false_eq_true]; rw [← ih]; congr 1; omega
  | case5 acc b r k h1 h2 h3 u ih => rw [hexGo.eq_def]; simp only [h1, h2, h3, if_true, if_false, Bool.false_eq_true]; rw [← ih]; congr 1; omega
  | case6 acc h b r k h1 h2 h3 => rw [hexGo.eq_def]; simp only [h1, h2, h3, if_false, Bool.false_eq_true]; rfl

/-- A token with its places n further on. -/
def addT (n : Nat) (x : Int × Tok) : Int × Tok := if x.1 = 0 then (x.1, { x.2 with to := x.2.to + n }) else x
theorem ofR3_add (n : Nat) (kind : Int) (x : R3) : ofR3 kind (add3 n x) = addT n (ofR3 kind x) := by
  unfold ofR3 add3 addT
  by_cases h : x.1 = 0
  · simp [h]
  · rw [if_neg h, if_neg h, if_neg h]

theorem tok_shift (a l : List UInt8) (k : Nat) : tokV (a ++ l) (k + a.length) = addT a.length (tokV l k) := by
  have hd : (a ++ l).drop (k + a.length) = l.drop k := by rw [Nat.add_comm, ← List.drop_drop, List.drop_left]
  have hw : wordV (a ++ l) (k + a.length) = addT a.length (wordV l k) := by
    unfold wordV
    rw [hd]
    unfold addT
    split
    · split
      · simp; omega
      · simp
    · simp; omega
  unfold tokV
  rw [hd]
  cases l.drop k with
  | nil => rfl
  | cons b r =>
    simp only []
    rw [show k + a.length + 1 = k + 1 + a.length by omega, show k + a.length + 2 = k + 2 + a.length by omega, hw, hex_shift, name_shift, text_shift, ofR3_add, ofR3_add, ofR3_add]
    split
    · rfl
    split
    · rfl
    split
    · split <;> rfl
    split
    · split <;> rfl
    split
    · rfl
    split
    · rfl
    split <;> rfl

theorem next_zero (l : List UInt8) : nextV l 0 = if (tokV l (spc false l)).1 = 0 then (0, { (tokV l (spc false l)).2 with frm := spc false l }) else ((tokV l (spc false l)).1, zero) := by
  have hs : spaceV l 0 = spc false l := by
    unfold spaceV
    have h0 : (min (max (0 : Int) 0) (l.length : Int)).toNat = 0 := by omega
    rw [h0, List.drop_zero]; omega
  unfold nextV
  rw [if_pos ⟨by omega, by omega⟩, hs]

theorem spc_comment : ∀ (c r : List UInt8), (∀ b ∈ c, inLine b = true) → spc true (c ++ r) = c.length + spc true r
  | [], r, _ => by simp
  | b :: c, r, h => by
    rw [List.cons_append, spc, if_pos (h b List.mem_cons_self), spc_comment c r (fun x hx => h x (List.mem_cons_of_mem _ hx))]
    simp; omega

/-- White and a comment ahead move a token, and nothing else. -/
theorem next_spaces (c l : List UInt8) (hc : ∀ b ∈ c, inLine b = true) :
    nextV ([32, 9, 37] ++ c ++ [10, 0] ++ l) 0 = if (nextV l 0).1 = 0 then (0, { (nextV l 0).2 with frm := (nextV l 0).2.frm + (c.length + 5), to := (nextV l 0).2.to + (c.length + 5) }) else nextV l 0 := by
  have hsp : spc false ([32, 9, 37] ++ c ++ [10, 0] ++ l) = spc false l + (c.length + 5) := by
    have e : [32, 9, 37] ++ c ++ [10, 0] ++ l = 32 :: 9 :: 37 :: (c ++ (10 :: 0 :: l)) := by simp
    rw [e, spc, if_pos (show white 32 = true from rfl), spc, if_pos (show white 9 = true from rfl), spc, if_neg (show ¬ white 37 = true by decide), if_pos (show ((37 : UInt8) == 37) = true from rfl), spc_comment c _ hc, spc, if_neg (show ¬ inLine 10 = true by decide), spc, if_pos (show white 0 = true from rfl)]
    omega
  have hlen : ([32, 9, 37] ++ c ++ [10, 0]).length = c.length + 5 := by simp
  have ht := tok_shift ([32, 9, 37] ++ c ++ [10, 0]) l (spc false l)
  rw [hlen] at ht
  rw [next_zero, hsp, ht, next_zero]
  unfold addT
  by_cases h : (tokV l (spc false l)).1 = 0
  · simp [h]
  · simp [h]

end Go.Proofs.YtbgdeaeikijdgaaGreatDoor.Lx

namespace Go.Proofs.YtbgdeaeikijdgaaGreatDoor.Lx

theorem name_bd (acc : List UInt8) (m : Nat) (l : List UInt8) (k : Nat) : (nameGo acc m l k).1 = 0 → k ≤ (nameGo acc m l k).2.2 ∧ (nameGo acc m l k).2.2 ≤ k + l.length := by
  fun_induction nameGo acc m l k with
  | case1 => intro _; simp
  | case2 acc k m b r ih => intro h; have := ih h; simp only [List.length_cons]; omega
  | case3 acc k b h1 h2 a c tail h3 ih => intro h; have := ih h; simp only [List.length_cons] at this ⊢; omega
  | case4 => intro h; simp at h
  | case5 => intro h; simp at h
  | case6 acc k b r h1 h2 ih => intro h; have := ih h; simp only [List.length_cons]; omega
  | case7 => intro _; simp

theorem text_bd (acc : List UInt8) (d m : Nat) (l : List UInt8) (k : Nat) : (textGo acc d m l k).1 = 0 → k < (textGo acc d m l k).2.2 ∧ (textGo acc d m l k).2.2 ≤ k + l.length := by
  fun_induction textGo acc d m l k with
  | case1 => intro h; simp at h
  | case5 => intro _; simp
  | case2 acc d k m b r ih => intro h; have := ih h; simp only [List.length_cons]; omega
  | case3 acc d k b r h1 ih => intro h; have := ih h; simp only [List.length_cons]; omega
  | case4 acc d k b r h1 h2 ih => intro h; have := ih h; simp only [List.length_cons]; omega
  | case6 acc k b r h1 h2 h3 d ih => intro h; have := ih h; simp only [List.length_cons]; omega
  | case7 acc d k b r h1 h2 h3 h4 ih => intro h; have := ih h; simp only [List.length_cons]; omega
  | case8 acc d k b r h1 h2 h3 h4 ih => intro h; have := ih h; simp only [List.length_cons]; omega

theorem hex_bd (acc : List UInt8) (h : Option UInt8) (l : List UInt8) (k : Nat) : (hexGo acc h l k).1 = 0 → k < (hexGo acc h l k).2.2 ∧ (hexGo acc h l k).2.2 ≤ k + l.length := by
  fun_induction hexGo acc h l k with
  | case1 => intro h; simp at h
  | case2 => intro _; simp
  | case3 acc h b r k h1 h2 ih => intro h; have := ih h; simp only [List.length_cons]; omega
  | case4 acc b r k h1 h2 h3 ih => intro h; have := ih h; simp only [List.length_cons]; omega
  | case5 acc b r k h1 h2 h3 u ih => intro h; have := ih h; simp only [List.length_cons]; omega
  | case6 => intro h; simp at h

theorem ofR3_to {kind : Int} {x : R3} (h : (ofR3 kind x).1 = 0) : x.1 = 0 ∧ (ofR3 kind x).2 = ⟨kind, 0, x.2.1, false, 0, x.2.2⟩ := by
  unfold ofR3 at h ⊢
  by_cases e : x.1 = 0
  · rw [if_pos e]; exact ⟨e, rfl⟩
  · rw [if_neg e] at h; exact absurd h e

/-- Of a token that is one: at the end it is End; else it is none, and ends behind where it begins. -/
theorem tok_bd (l : List UInt8) (k : Nat) (hk : k ≤ l.length) (hs : spc false (l.drop k) = 0) (h : (tokV l k).1 = 0) :
    (k = l.length ∧ (tokV l k).2 = ⟨0, 0, [], false, 0, k⟩) ∨ (k < l.length ∧ (tokV l k).2.kind ≠ 0 ∧ k < (tokV l k).2.to ∧ (tokV l k).2.to ≤ l.length ∧ (tokV l k).2.frm = 0) := by
  have hlen : (l.drop k).length = l.length - k := List.length_drop
  have hw : wordV l k = wordV l k := rfl
  unfold tokV at h ⊢
  cases hd : l.drop k with
  | nil =>
    rw [hd] at hlen
    exact .inl ⟨by simp at hlen; omega, rfl⟩
  | cons b r =>
    rw [hd] at h hlen hs
    simp only [List.length_cons] at hlen
    simp only [] at h ⊢
    right
    refine ⟨by omega, ?_⟩
    by_cases h91 : (b == 91) = true
    · rw [if_pos h91]; simp; omega
    rw [if_neg h91] at h ⊢
    by_cases h93 : (b == 93) = true
    · rw [if_pos h93]; simp; omega
    rw [if_neg h93] at h ⊢
    by_cases h60 : (b == 60) = true
    · rw [if_pos h60] at h ⊢
      by_cases h2 : (r.head? == some 60) = true
      · rw [if_pos h2]
        have : 0 < r.length := by cases r with | nil => simp at h2 | cons _ _ => simp
        simp; omega
      · rw [if_neg h2] at h ⊢
        obtain ⟨e, he⟩ := ofR3_to h
        have := hex_bd _ _ _ _ e
        rw [he]; simp; omega
    rw [if_neg h60] at h ⊢
    by_cases h62 : (b == 62) = true
    · rw [if_pos h62] at h ⊢
      by_cases h2 : (r.head? == some 62) = true
      · rw [if_pos h2]
        have : 0 < r.length := by cases r with | nil => simp at h2 | cons _ _ => simp
        simp; omega
      · rw [if_neg h2] at h; simp at h
    rw [if_neg h62] at h ⊢
    by_cases h47 : (b == 47) = true
    · rw [if_pos h47] at h ⊢
      obtain ⟨e, he⟩ := ofR3_to h
      have := name_bd _ _ _ _ e
      rw [he]; simp; omega
    rw [if_neg h47] at h ⊢
    by_cases h40 : (b == 40) = true
    · rw [if_pos h40] at h ⊢
      obtain ⟨e, he⟩ := ofR3_to h
      have := text_bd _ _ _ _ _ e
      rw [he]; simp; omega
    rw [if_neg h40] at h ⊢
    by_cases h41 : (b == 41 || b == 123 || b == 125) = true
    · rw [if_pos h41] at h; simp at h
    rw [if_neg h41] at h ⊢
    have hreg : reg b = true := by
      have hwh : white b = false ∧ (b == 37) = false := by
        rw [spc] at hs
        cases e1 : white b
        · cases e2 : (b == 37)
          · exact ⟨rfl, rfl⟩
          · rw [e1, e2] at hs; simp at hs
        · rw [e1] at hs; simp at hs
      have := byte_all (fun c => white c || c == 91 || c == 93 || c == 60 || c == 62 || c == 47 || c == 40 || (c == 41 || c == 123 || c == 125) || c == 37 || reg c) (by kernel_rfl) b
      simp only [Bool.not_eq_true] at h91 h93 h60 h62 h47 h40 h41
      rw [hwh.1, h91, h93, h60, h62, h47, h40, h41, hwh.2] at this
      exact this
    have htw : 1 ≤ tw reg (l.drop k) ∧ tw reg (l.drop k) ≤ l.length - k := by
      constructor
      · rw [hd, tw, if_pos hreg]; omega
      · have := tw_le reg (l.drop k); rw [List.length_drop] at this; exact this
    unfold wordV at h ⊢
    split
    · rename_i h1
      rw [if_pos h1] at h
      split
      · simp; omega
      · rename_i h2; rw [if_neg h2] at h; simp at h; exact absurd h h2
    · simp; omega

theorem rest_zero : ∀ (c : Bool) (l : List UInt8), spc false (l.drop (spc c l)) = 0
  | c, [] => by rw [List.drop_nil]; rfl
  | true, b :: r => by
    rw [spc]
    split
    · rw [List.drop_succ_cons]; exact rest_zero true r
    · rw [List.drop_succ_cons]; exact rest_zero false r
  | false, b :: r => by
    cases hw : white b
    · by_cases h37 : (b == 37) = true
      · rw [spc, hw, if_neg (by simp), if_pos h37, List.drop_succ_cons]; exact rest_zero true r
      · rw [show spc false (b :: r) = 0 by rw [spc, hw, if_neg (by simp), if_neg h37], List.drop_zero, spc, hw, if_neg (by simp), if_neg h37]
    · rw [spc, hw, if_pos rfl, List.drop_succ_cons]; exact rest_zero false r

theorem space_bd (l : List UInt8) (a : Int) (h0 : 0 ≤ a) (h1 : a ≤ l.length) : a ≤ (spaceV l a : Int) ∧ spaceV l a ≤ l.length ∧ spc false (l.drop (spaceV l a)) = 0 := by
  unfold spaceV
  refine ⟨by omega, ?_, ?_⟩
  · have := spc_le false (l.drop (min (max a 0) (l.length : Int)).toNat)
    simp at this; omega
  · rw [← List.drop_drop]; exact rest_zero _ _

/-- Where a token that is one stands. -/
theorem next_bd (l : List UInt8) (a : Int) (h : (nextV l a).1 = 0) : 0 ≤ a ∧ a ≤ l.length ∧ a ≤ ((nextV l a).2.frm : Int) ∧ (nextV l a).2.frm ≤ l.length ∧ (nextV l a).2.frm ≤ (nextV l a).2.to ∧ (nextV l a).2.to ≤ l.length ∧
    (((nextV l a).2.kind = 0 ∧ (nextV l a).2.frm = l.length ∧ (nextV l a).2.to = (nextV l a).2.frm) ∨ ((nextV l a).2.kind ≠ 0 ∧ (nextV l a).2.frm < l.length ∧ (nextV l a).2.frm < (nextV l a).2.to)) := by
  unfold nextV at h ⊢
  by_cases hin : 0 ≤ a ∧ a ≤ (l.length : Int)
  · rw [if_pos hin] at h ⊢
    obtain ⟨b1, b2, b3⟩ := space_bd l a hin.1 hin.2
    by_cases he : (tokV l (spaceV l a)).1 = 0
    · rw [if_pos he]
      rcases tok_bd l _ b2 b3 he with ⟨h1, h2⟩ | ⟨h1, h2, h3, h4, h5⟩
      · rw [h2]; simp; omega
      · simp only []; omega
    · rw [if_neg he] at h; exact absurd h he
  · rw [if_neg hin] at h; simp at h

end Go.Proofs.YtbgdeaeikijdgaaGreatDoor.Lx

namespace Go.Proofs.YtbgdeaeikijdgaaGreatDoor.Lx

theorem chkV_bd (x : Int) : -2147483648 ≤ Fx.chkV x ∧ Fx.chkV x ≤ 2147483648 := by
  unfold Fx.chkV
  split
  · next h => exact ⟨Fx.sane_lo h, Fx.sane_hi h⟩
  · omega
theorem parseV_bd (l : List UInt8) : -2147483648 ≤ Fx.parseV l ∧ Fx.parseV l ≤ 2147483648 := by
  unfold Fx.parseV
  split
  · omega
  · split
    · exact chkV_bd _
    · omega

theorem lo0 : (-2147483648 : Int) ≤ 0 := by decide
theorem hi0 : (0 : Int) ≤ 2147483648 := by decide
theorem esc_one (l : List UInt8) : (esc l).1.length ≤ 1 := by
  cases l with
  | nil => simp [esc]
  | cons b r => rw [esc_cons]; repeat' split
                all_goals simp
theorem name_len (acc : List UInt8) (m : Nat) (l : List UInt8) (k : Nat) : (nameGo acc m l k).2.1.length ≤ acc.length + l.length := by
  fun_induction nameGo acc m l k with
  | case1 => simp
  | case2 acc k m b r ih => simp only [List.length_cons]; omega
  | case3 acc k b h1 h2 a c tail h3 ih => simp only [List.length_cons, List.length_append, List.length_nil] at ih ⊢; omega
  | case4 => simp
  | case5 => simp
  | case6 acc k b r h1 h2 ih => simp only [List.length_cons, List.length_append, List.length_nil] at ih ⊢; omega
  | case7 => simp
theorem text_len (acc : List UInt8) (d m : Nat) (l : List UInt8) (k : Nat) : (textGo acc d m l k).2.1.length ≤ acc.length + l.length := by
  fun_induction textGo acc d m l k with
  | case1 => simp
  | case5 => simp
  | case2 acc d k m b r ih => simp only [List.length_cons]; omega
  | case3 acc d b r k h1 ih => have := esc_one r; simp only [List.length_cons, List.length_append] at ih ⊢; omega
  | case4 acc d k b r h1 h2 ih => simp only [List.length_cons, List.length_append, List.length_nil] at ih ⊢; omega
  | case6 acc k b r h1 h2 h3 d ih => simp only [List.length_cons, List.length_append, List.length_nil] at ih ⊢; omega
  | case7 acc d k b r h1 h2 h3 h4 ih => simp only [List.length_cons, List.length_append, List.length_nil] at ih ⊢; omega
  | case8 acc d k b r h1 h2 h3 h4 ih => simp only [List.length_cons, List.length_append, List.length_nil] at ih ⊢; omega
theorem hex_len (acc : List UInt8) (h : Option UInt8) (l : List UInt8) (k : Nat) : (hexGo acc h l k).2.1.length ≤ acc.length + h.toList.length + l.length := by
  fun_induction hexGo acc h l k with
  | case1 => simp
  | case2 => simp
  | case3 acc h b r k h1 h2 ih => simp only [List.length_cons]; omega
  | case4 acc b r k h1 h2 h3 ih => simp only [List.length_cons, Option.toList, List.length_nil] at ih ⊢; omega
  | case5 acc b r k h1 h2 h3 u ih => simp only [List.length_cons, List.length_append, Option.toList, List.length_nil] at ih ⊢; omega
  | case6 => simp

theorem ofR3_len {kind : Int} {x : R3} : (ofR3 kind x).2.f = 0 ∧ (ofR3 kind x).2.s.length ≤ x.2.1.length := by
  unfold ofR3; split
  · exact ⟨rfl, Nat.le_refl _⟩
  · exact ⟨rfl, Nat.zero_le _⟩
theorem wordV_len (l : List UInt8) (k : Nat) : -2147483648 ≤ (wordV l k).2.f ∧ (wordV l k).2.f ≤ 2147483648 ∧ (wordV l k).2.s.length ≤ l.length := by
  unfold wordV
  have h1 := parseV_bd ((l.drop k).take (tw reg (l.drop k)))
  split
  · split
    · exact ⟨h1.1, h1.2, Nat.zero_le _⟩
    · exact ⟨lo0, hi0, Nat.zero_le _⟩
  · refine ⟨lo0, hi0, ?_⟩
    simp only [List.length_take, List.length_drop]; omega
theorem tok_len (l : List UInt8) (k : Nat) : -2147483648 ≤ (tokV l k).2.f ∧ (tokV l k).2.f ≤ 2147483648 ∧ (tokV l k).2.s.length ≤ l.length := by
  have hr : ∀ (kind : Int) (x : R3) (n : Nat), x.2.1.length ≤ n → n ≤ l.length → -2147483648 ≤ (ofR3 kind x).2.f ∧ (ofR3 kind x).2.f ≤ 2147483648 ∧ (ofR3 kind x).2.s.length ≤ l.length := fun kind x n h1 h2 => by
    have := @ofR3_len kind x
    rw [this.1]; omega
  have hlen : (l.drop k).length = l.length - k := List.length_drop
  unfold tokV
  cases hd : l.drop k with
  | nil => exact ⟨lo0, hi0, Nat.zero_le _⟩
  | cons b r =>
    rw [hd] at hlen
    simp only [List.length_cons] at hlen
    simp only []
    have z : ∀ (e kd : Int) (to_ : Nat), -2147483648 ≤ (((e, ⟨kd, 0, [], false, 0, to_⟩) : Int × Tok)).2.f ∧ (((e, ⟨kd, 0, [], false, 0, to_⟩) : Int × Tok)).2.f ≤ 2147483648 ∧ (((e, ⟨kd, 0, [], false, 0, to_⟩) : Int × Tok)).2.s.length ≤ l.length := fun _ _ _ => ⟨lo0, hi0, Nat.zero_le _⟩
    split
    · exact z _ _ _
    · split
      · exact z _ _ _
      · split
        · split
          · exact z _ _ _
          · exact hr _ _ r.length (by have := hex_len [] none r (k + 1); simpa using this) (by omega)
        · split
          · split
            · exact z _ _ _
            · exact z _ _ _
          · split
            · exact hr _ _ r.length (by have := name_len [] 0 r (k + 1); simpa using this) (by omega)
            · split
              · exact hr _ _ r.length (by have := text_len [] 0 0 r (k + 1); simpa using this) (by omega)
              · split
                · exact z _ _ _
                · exact wordV_len l k
theorem next_len (l : List UInt8) (a : Int) : -2147483648 ≤ (nextV l a).2.f ∧ (nextV l a).2.f ≤ 2147483648 ∧ (nextV l a).2.s.length ≤ l.length := by
  unfold nextV
  split
  · split
    · exact tok_len l _
    · exact ⟨lo0, hi0, Nat.zero_le _⟩
  · exact ⟨lo0, hi0, Nat.zero_le _⟩

/-- A token in the place of none: the zero one, an End, at 0. -/
theorem next_to (l : List UInt8) (a : Int) : (nextV l a).2.to ≤ l.length := by
  by_cases h : (nextV l a).1 = 0
  · exact (next_bd l a h).2.2.2.2.2.1
  · have : (nextV l a).2 = zero := by
      unfold nextV at h ⊢
      split
      · split
        · next h1 h2 => rw [if_pos h1, if_pos h2] at h; exact absurd rfl h
        · rfl
      · rfl
    rw [this]; exact Nat.zero_le _
theorem next_zero_of (l : List UInt8) (a : Int) (h : (nextV l a).1 ≠ 0) : (nextV l a).2 = zero := by
  unfold nextV at h ⊢
  split
  · split
    · next h1 h2 => rw [if_pos h1, if_pos h2] at h; exact absurd rfl h
    · rfl
  · rfl
theorem tokOf_next (l : List UInt8) (a : Int) : Cx.tokOf (nextV l a) = (nextV l a).2 := by
  unfold Cx.tokOf
  split
  · rfl
  · next h => rw [next_zero_of l a h]

end Go.Proofs.YtbgdeaeikijdgaaGreatDoor.Lx

namespace Go.Proofs.YtbgdeaeikijdgaaGreatDoor.Cx
open Lx

theorem next_le (l : List UInt8) (a : Nat) (h : (nextV l a).1 = 0) : a ≤ (nextV l a).2.to ∧ (nextV l a).2.to ≤ l.length := by
  have := next_bd l a h
  omega
theorem number_to (l : List UInt8) (t : Tok) (ht : t.to ≤ l.length) : t.to ≤ (numberV l t).2 ∧ (numberV l t).2 ≤ l.length := by
  unfold numberV
  split
  · split
    · next h2 =>
      rw [tokOf_next] at h2
      split
      · next h3 =>
        rw [tokOf_next] at h3 ⊢
        have e1 : (nextV l (t.to : Int)).1 = 0 := by
          by_cases e : (nextV l (t.to : Int)).1 = 0
          · exact e
          · rw [next_zero_of l _ e] at h2; exact absurd h2 (by decide)
        have e2 : (nextV l ((nextV l (t.to : Int)).2.to : Int)).1 = 0 := by
          by_cases e : (nextV l ((nextV l (t.to : Int)).2.to : Int)).1 = 0
          · exact e
          · rw [tokOf_next, next_zero_of l _ e] at h3; exact absurd h3 (by simp [isW, zero])
        have b1 := next_le l t.to e1
        have b2 := next_le l _ e2
        rw [tokOf_next]
        exact ⟨Nat.le_trans b1.1 b2.1, b2.2⟩
      · exact ⟨Nat.le_refl _, ht⟩
    · exact ⟨Nat.le_refl _, ht⟩
  · exact ⟨Nat.le_refl _, ht⟩

theorem ends_all (l : List UInt8) : ∀ F : Nat,
    (∀ dep t, t.to ≤ l.length → (objOf F l dep t).1 = 0 → t.to ≤ (objOf F l dep t).2.2 ∧ (objOf F l dep t).2.2 ≤ l.length) ∧
    (∀ dep acc k, k ≤ l.length → (upO F l dep acc k).1 = 0 → k ≤ (upO F l dep acc k).2.2 ∧ (upO F l dep acc k).2.2 ≤ l.length) ∧
    (∀ dep acc k, k ≤ l.length → (upE F l dep acc k).1 = 0 → k ≤ (upE F l dep acc k).2.2 ∧ (upE F l dep acc k).2.2 ≤ l.length) ∧
    (∀ dep t, t.to ≤ l.length → (entOf F l dep t).1 = 0 → t.to ≤ (entOf F l dep t).2.2 ∧ (entOf F l dep t).2.2 ≤ l.length) := by
  intro F
  induction F with
  | zero =>
    refine ⟨fun dep t _ h => ?_, fun dep acc k _ h => ?_, fun dep acc k _ h => ?_, fun dep t _ h => ?_⟩
    · rw [objOf] at h; exact absurd h (by simp)
    · rw [upO] at h; exact absurd h (by simp)
    · rw [upE] at h; exact absurd h (by simp)
    · rw [entOf] at h; exact absurd h (by simp)
  | succ F ih =>
    obtain ⟨i1, i2, i3, i4⟩ := ih
    refine ⟨fun dep t ht h => ?_, fun dep acc k hk h => ?_, fun dep acc k hk h => ?_, fun dep t ht h => ?_⟩
    · rw [objOf] at h ⊢
      split
      · next h0 => rw [if_pos h0] at h; simp at h
      · next h0 =>
        rw [if_neg h0] at h
        split
        · exact number_to l t ht
        · next h1 =>
          rw [if_neg h1] at h
          split
          · exact ⟨Nat.le_refl _, ht⟩
          · next h2 =>
            rw [if_neg h2] at h
            split
            · exact ⟨Nat.le_refl _, ht⟩
            · next h3 =>
              rw [if_neg h3] at h
              split
              · next h8 =>
                rw [if_pos h8] at h
                simp only [] at h ⊢
                rw [if_pos h]; exact ⟨Nat.le_refl _, ht⟩
              · next h8 =>
                rw [if_neg h8] at h
                split
                · next h4 =>
                  rw [if_pos h4] at h
                  split
                  · next hd => rw [if_pos hd] at h; simp at h
                  · next hd =>
                    rw [if_neg hd] at h
                    split
                    · next hu => exact i2 _ _ _ ht hu
                    · next hu => rw [if_neg hu] at h; exact absurd h hu
                · next h4 =>
                  rw [if_neg h4] at h
                  split
                  · next h6 =>
                    rw [if_pos h6] at h
                    split
                    · next hd => rw [if_pos hd] at h; simp at h
                    · next hd =>
                      rw [if_neg hd] at h
                      split
                      · next hu => exact i3 _ _ _ ht hu
                      · next hu => rw [if_neg hu] at h; exact absurd h hu
                  · next h6 => rw [if_neg h6] at h; simp at h
    · rw [upO] at h ⊢
      split
      · next he => rw [if_pos he] at h; exact absurd h he
      · next he =>
        rw [if_neg he] at h
        have hb := next_le l k (by simpa using he)
        split
        · exact hb
        · next h5 =>
          rw [if_neg h5] at h
          split
          · next h0 => rw [if_pos h0] at h; simp at h
          · next h0 =>
            rw [if_neg h0] at h
            split
            · next hl => rw [if_pos hl] at h; simp at h
            · next hl =>
              rw [if_neg hl] at h
              split
              · next ho =>
                rw [if_pos ho] at h
                have b1 := i1 dep _ hb.2 ho
                have b2 := i2 dep _ _ b1.2 h
                omega
              · next ho => rw [if_neg ho] at h; exact absurd h ho
    · rw [upE] at h ⊢
      split
      · next he => rw [if_pos he] at h; exact absurd h he
      · next he =>
        rw [if_neg he] at h
        have hb := next_le l k (by simpa using he)
        split
        · exact hb
        · next h5 =>
          rw [if_neg h5] at h
          split
          · next h0 => rw [if_pos h0] at h; simp at h
          · next h0 =>
            rw [if_neg h0] at h
            split
            · next hl => rw [if_pos hl] at h; simp at h
            · next hl =>
              rw [if_neg hl] at h
              split
              · next ho =>
                rw [if_pos ho] at h
                have b1 := i4 dep _ hb.2 ho
                have b2 := i3 dep _ _ b1.2 h
                omega
              · next ho => rw [if_neg ho] at h; exact absurd h ho
    · rw [entOf] at h ⊢
      split
      · next h2 => rw [if_pos h2] at h; simp at h
      · next h2 =>
        rw [if_neg h2] at h
        split
        · next he => rw [if_pos he] at h; exact absurd h he
        · next he =>
          rw [if_neg he] at h
          have hb := next_le l t.to (by simpa using he)
          split
          · next ho =>
            have b1 := i1 dep _ hb.2 ho
            exact ⟨Nat.le_trans hb.1 b1.1, b1.2⟩
          · next ho => rw [if_neg ho] at h; exact absurd h ho

/-- Entries as they were written are no more than may be. -/
theorem upE_len (l : List UInt8) : ∀ (F : Nat) (dep : Nat) (acc : List Entr) (k : Nat), acc.length ≤ 1024 → (upE F l dep acc k).2.1.length ≤ 1024
  | 0, _, _, _, _ => by rw [upE]; exact Nat.zero_le _
  | F + 1, dep, acc, k, h => by
    rw [upE]
    split
    · exact Nat.zero_le _
    · split
      · exact h
      · split
        · exact Nat.zero_le _
        · split
          · exact Nat.zero_le _
          · next hl =>
            split
            · exact upE_len l F dep _ _ (by simp; omega)
            · exact Nat.zero_le _

end Go.Proofs.YtbgdeaeikijdgaaGreatDoor.Cx

namespace Go.Proofs.YtbgdeaeikijdgaaGreatDoor.Cx
open Lx

def isOp (t : Tok) : Bool := t.kind == 8 && !(t.s == trueT || t.s == falseT || t.s == nullT)
/-- The object that begins with a token; a Num is none of a Ref's. -/
def objectV (l : List UInt8) (t : Tok) : Int × Ob × Nat := if t.kind = 1 then parse (l.take t.to) t.frm else parse l t.frm
def opO (s : ByteArray) (l : List Ob) : Ob := .mk 0 0 0 s l []

def operStep (l : List UInt8) (acc : List Ob) (at_ : Int) (rest : Int × Ob × Nat) : Int × Ob × Nat :=
  if (nextV l at_).1 ≠ 0 then ((nextV l at_).1, nul, 0)
  else if (nextV l at_).2.kind = 0 ∧ acc ≠ [] then (3, nul, 0)
  else if (nextV l at_).2.kind = 0 ∨ isOp (nextV l at_).2 = true then (0, opO (str (nextV l at_).2.s) acc, (nextV l at_).2.to)
  else rest
/-- The operator behind a place; so many objects there may be yet. -/
def operGo (l : List UInt8) : Nat → List Ob → Int → Int × Ob × Nat
  | 0, acc, at_ => operStep l acc at_ (6, nul, 0)
  | m + 1, acc, at_ => operStep l acc at_ (if (objectV l (nextV l at_).2).1 ≠ 0 then ((objectV l (nextV l at_).2).1, nul, 0) else operGo l m (acc ++ [(objectV l (nextV l at_).2).2.1]) (objectV l (nextV l at_).2).2.2)

def opsStep (l : List UInt8) (acc : List Ob) (at_ : Int) (rest : Int × List Ob) : Int × List Ob :=
  if (operGo l 64 [] at_).1 ≠ 0 then ((operGo l 64 [] at_).1, [])
  else if (operGo l 64 [] at_).2.1.s.data.toList = [] then (0, acc)
  else rest
def opsGo (l : List UInt8) : Nat → List Ob → Int → Int × List Ob
  | 0, acc, at_ => opsStep l acc at_ (6, [])
  | m + 1, acc, at_ => opsStep l acc at_ (if (operGo l 64 [] at_).2.1.s.data.toList = [66, 73] then (3, []) else opsGo l m (acc ++ [(operGo l 64 [] at_).2.1]) (operGo l 64 [] at_).2.2)
/-- A text as operators. -/
def opsV (l : List UInt8) : Int × List Ob := opsGo l 65536 [] 0

def named (s : List UInt8) : Bool := (nextV s 0).1 == 0 && isOp (nextV s 0).2 && (nextV s 0).2.s == s && !(s == [66, 73])

mutual
/-- 1: an object is a Ref, or one stands in it; 5: too deep. -/
def Ob.refs : Ob → Nat → Int
  | .mk k _ _ _ l d, lev => if k = 7 then 1 else if 65536 < lev then 5 else if k = 5 then refsL l (lev + 1) else if k = 6 ∨ k = 8 then refsD d (lev + 1) else 0
def refsL : List Ob → Nat → Int
  | [], _ => 0
  | x :: r, lev => if x.refs lev ≠ 0 then x.refs lev else refsL r lev
def refsD : List (ByteArray × Ob) → Nat → Int
  | [], _ => 0
  | (_, x) :: r, lev => if x.refs lev ≠ 0 then x.refs lev else refsD r lev
end
theorem refs_mk (k n f : Int) (s : ByteArray) (l : List Ob) (d : List Entr) (lev : Nat) : (Ob.mk k n f s l d).refs lev = if k = 7 then 1 else if 65536 < lev then 5 else if k = 5 then refsL l (lev + 1) else if k = 6 ∨ k = 8 then refsD d (lev + 1) else 0 := by rw [Ob.refs]
theorem refs_eq (o : Ob) (lev : Nat) : o.refs lev = if o.k = 7 then 1 else if 65536 < lev then 5 else if o.k = 5 then refsL o.l (lev + 1) else if o.k = 6 ∨ o.k = 8 then refsD o.d (lev + 1) else 0 := by
  obtain ⟨k, n, f, s, l, d⟩ := o; exact refs_mk k n f s l d lev
theorem refsL_nil (lev : Nat) : refsL [] lev = 0 := by rw [refsL]
theorem refsL_cons (x : Ob) (r : List Ob) (lev : Nat) : refsL (x :: r) lev = if x.refs lev ≠ 0 then x.refs lev else refsL r lev := by rw [refsL]
theorem refsD_map : ∀ (d : List Entr) (lev : Nat), refsD d lev = refsL (d.map (·.2)) lev
  | [], lev => by rw [refsD]; exact (refsL_nil lev).symm
  | (k, x) :: r, lev => by rw [refsD, List.map_cons, refsL_cons, refsD_map r lev]
theorem refsL_step (l : List Ob) (i : Nat) (h : i < l.length) (lev : Nat) : refsL (l.drop i) lev = if l[i].refs lev ≠ 0 then l[i].refs lev else refsL (l.drop (i + 1)) lev := by
  rw [List.drop_eq_getElem_cons h, refsL_cons]
theorem refsL_end (l : List Ob) (lev : Nat) : refsL (l.drop l.length) lev = 0 := by rw [List.drop_length, refsL_nil]
/-- What stands right in an object. -/
def Ob.inside (o : Ob) : List Ob := if o.k = 5 then o.l else if o.k = 6 ∨ o.k = 8 then o.d.map (·.2) else []
theorem refs_inside (o : Ob) (lev : Nat) : o.refs lev = if o.k = 7 then 1 else if 65536 < lev then 5 else refsL o.inside (lev + 1) := by
  rw [refs_eq]
  unfold Ob.inside
  split
  · rfl
  · split
    · rfl
    · split
      · rfl
      · split
        · exact refsD_map _ _
        · rw [refsL_nil]

def objTE (x : Ob) : Int × List UInt8 := if x.sane 0 ≠ 0 then (x.sane 0, []) else if x.k = 8 then (1, []) else (0, x.text)
/-- Why an operator's objects may not be written. -/
def argE : List Ob → Int
  | [] => 0
  | x :: r => if x.refs 0 = 1 then 1 else if (objTE x).1 ≠ 0 then (objTE x).1 else argE r
theorem argE_step (l : List Ob) (i : Nat) (h : i < l.length) : argE (l.drop i) = if l[i].refs 0 = 1 then 1 else if (objTE l[i]).1 ≠ 0 then (objTE l[i]).1 else argE (l.drop (i + 1)) := by
  rw [List.drop_eq_getElem_cons h, argE]
def lineE (o : Ob) : Int := if named o.s.data.toList then (if 64 < o.l.length then 6 else argE o.l) else 1
def lineT (o : Ob) : List UInt8 := Lib.join (o.l.map (fun x => (objTE x).2) ++ [o.s.data.toList]) [32] ++ [10]
def linesE : List Ob → Int
  | [] => 0
  | x :: r => if lineE x ≠ 0 then lineE x else linesE r
theorem linesE_step (l : List Ob) (i : Nat) (h : i < l.length) : linesE (l.drop i) = if lineE l[i] ≠ 0 then lineE l[i] else linesE (l.drop (i + 1)) := by
  rw [List.drop_eq_getElem_cons h, linesE]
def linesT (l : List Ob) : List UInt8 := l.flatMap lineT
def opsE (l : List Ob) : Int := if 65536 < l.length then 6 else linesE l
def opsT (l : List Ob) : List UInt8 := if opsE l ≠ 0 then [] else linesT l
theorem linesT_take (l : List Ob) (i : Nat) (h : i < l.length) : linesT (l.take (i + 1)) = linesT (l.take i) ++ lineT l[i] := by
  unfold linesT; rw [List.take_succ_eq_append_getElem h, List.flatMap_append]; simp

/-- By how many more states are kept. -/
def stepV (s : List UInt8) : Int := if s = [113] then 1 else if s = [81] then -1 else 0
def balGo : List Ob → Int → Bool → Bool
  | [], kept, inT => kept == 0 && !inT
  | x :: r, kept, inT =>
    if x.s.data.toList = [113] ∨ x.s.data.toList = [81] then (if inT || decide (kept + stepV x.s.data.toList < 0) then false else balGo r (kept + stepV x.s.data.toList) inT)
    else if x.s.data.toList = [66, 84] ∨ x.s.data.toList = [69, 84] then (if inT == (x.s.data.toList == [66, 84]) then false else balGo r kept (!inT))
    else balGo r kept inT
def balV (l : List Ob) : Bool := balGo l 0 false
def keptV (l : List Ob) : Int := (l.map fun x => stepV x.s.data.toList).sum
def leastGo : List Ob → Int → Int → Int
  | [], _, least => least
  | x :: r, kept, least => leastGo r (kept + stepV x.s.data.toList) (min least (kept + stepV x.s.data.toList))
def leastV (l : List Ob) : Int := leastGo l 0 0
def qO : Ob := opO ⟨#[113]⟩ []
def bO : Ob := opO ⟨#[81]⟩ []
def wrapV (l : List Ob) : List Ob := List.replicate (1 - leastV l).toNat qO ++ l ++ List.replicate (1 + keptV l - leastV l).toNat bO

end Go.Proofs.YtbgdeaeikijdgaaGreatDoor.Cx

namespace Go.Proofs.YtbgdeaeikijdgaaGreatDoor.Cx

def live (D : List Entr) : List Entr := D.filter fun e => e.2.k != 0
theorem live_append (A B : List Entr) : live (A ++ B) = live A ++ live B := by unfold live; rw [List.filter_append]
theorem live_one (e : Entr) (h : e.2.k ≠ 0) : live [e] = [e] := by unfold live; rw [List.filter_cons, if_pos (by simpa using h)]; rfl
theorem live_nul (key : ByteArray) : live [(key, nul)] = [] := rfl

theorem setGo_true (key : ByteArray) (v : Ob) : ∀ L : List Entr, (∀ e ∈ L, e.1 ≠ key) → setGo key v true L = L
  | [], _ => rfl
  | e :: r, h => by
    rw [setGo, keq_no (h e List.mem_cons_self), if_neg (by simp), setGo_true key v r fun x hx => h x (List.mem_cons_of_mem _ hx)]
theorem setGo_end (key : ByteArray) (v : Ob) : ∀ L : List Entr, (∀ e ∈ L, e.1 ≠ key) → setGo key v false L = L ++ [(key, v)]
  | [], _ => rfl
  | e :: r, h => by
    rw [setGo, keq_no (h e List.mem_cons_self), if_neg (by simp), setGo_end key v r fun x hx => h x (List.mem_cons_of_mem _ hx)]; rfl
theorem setGo_mid (key : ByteArray) (v : Ob) (b : Bool) (x : Entr) (hx : x.1 = key) (B : List Entr) (hB : ∀ e ∈ B, e.1 ≠ key) : ∀ A : List Entr, (∀ e ∈ A, e.1 ≠ key) → setGo key v b (A ++ x :: B) = A ++ (if b then [] else [(key, v)]) ++ B
  | [], _ => by
    rw [List.nil_append, setGo, hx, keq_self, if_pos rfl]
    cases b
    · simp only [Bool.false_eq_true, if_false]; rw [setGo_true key v B hB]; rfl
    · simp only [if_true]; rw [setGo_true key v B hB]; rfl
  | e :: r, h => by
    rw [List.cons_append, setGo, keq_no (h e List.mem_cons_self), if_neg (by simp), setGo_mid key v b x hx B hB r fun y hy => h y (List.mem_cons_of_mem _ hy)]; rfl

/-- Entries with holes, and where each key's living one stands. -/
structure Inv (D : List Entr) (J : ByteArray → Option Nat) (S : List Entr) : Prop where
  live : live D = S
  there : ∀ key i, J key = some i → ∃ h : i < D.length, D[i].1 = key ∧ D[i].2.k ≠ 0
  only : ∀ i (h : i < D.length), D[i].2.k ≠ 0 → J D[i].1 = some i

theorem Inv.nil : Inv [] (fun _ => none) [] := ⟨rfl, fun _ _ h => (by simp at h), fun _ h => absurd h (Nat.not_lt_zero _)⟩

theorem live_mem {D : List Entr} {e : Entr} (h : e ∈ live D) : e ∈ D ∧ e.2.k ≠ 0 := by
  unfold live at h
  have := List.mem_filter.1 h
  exact ⟨this.1, by simpa using this.2⟩
theorem Inv.none_key {D : List Entr} {J : ByteArray → Option Nat} {S : List Entr} (h : Inv D J S) {key : ByteArray} (hj : J key = none) : ∀ e ∈ S, e.1 ≠ key := by
  intro e he hk
  rw [← h.live] at he
  obtain ⟨hm, hl⟩ := live_mem he
  obtain ⟨i, hi, rfl⟩ := List.getElem_of_mem hm
  have := h.only i hi hl
  rw [hk, hj] at this; cases this
theorem Inv.parts {D : List Entr} {J : ByteArray → Option Nat} {S : List Entr} (h : Inv D J S) {key : ByteArray} {i : Nat} (hj : J key = some i) :
    ∃ hi : i < D.length, D = D.take i ++ D[i] :: D.drop (i + 1) ∧ D[i].1 = key ∧ D[i].2.k ≠ 0 ∧ (∀ e ∈ Cx.live (D.take i), e.1 ≠ key) ∧ (∀ e ∈ Cx.live (D.drop (i + 1)), e.1 ≠ key) := by
  obtain ⟨hi, hk, hl⟩ := h.there key i hj
  refine ⟨hi, by rw [← List.drop_eq_getElem_cons hi, List.take_append_drop], hk, hl, fun e he hke => ?_, fun e he hke => ?_⟩
  · obtain ⟨hm, hl'⟩ := live_mem he
    obtain ⟨j, hj', rfl⟩ := List.getElem_of_mem hm
    have hjl : j < i ∧ j < D.length := by
      have := hj'; rw [List.length_take] at this; omega
    rw [List.getElem_take] at hl' hke
    have := h.only j hjl.2 hl'
    rw [hke, hj] at this
    injection this with this; omega
  · obtain ⟨hm, hl'⟩ := live_mem he
    obtain ⟨j, hj', rfl⟩ := List.getElem_of_mem hm
    have hjl : i + 1 + j < D.length := by
      have := hj'; rw [List.length_drop] at this; omega
    rw [List.getElem_drop] at hl' hke
    have := h.only (i + 1 + j) hjl hl'
    rw [hke, hj] at this
    injection this with this; omega

theorem set_parts {D : List Entr} {i : Nat} (hi : i < D.length) (y : Entr) : D.set i y = D.take i ++ y :: D.drop (i + 1) := by
  rw [List.set_eq_take_append_cons_drop, if_pos hi]

theorem Inv.replace {D : List Entr} {J : ByteArray → Option Nat} {S : List Entr} (h : Inv D J S) {key : ByteArray} {i : Nat} (hj : J key = some i) {v : Ob} (hv : v.k ≠ 0) : Inv (D.set i (key, v)) J (setD S key v) := by
  obtain ⟨hi, hD, hk, hl, hA, hB⟩ := h.parts hj
  refine ⟨?_, fun k' j hj' => ?_, fun j hjl hlj => ?_⟩
  · rw [← h.live, set_parts hi, live_append, show (key, v) :: D.drop (i + 1) = [(key, v)] ++ D.drop (i + 1) from rfl, live_append, live_one (key, v) hv]
    have e1 : Cx.live D = Cx.live (D.take i) ++ D[i] :: Cx.live (D.drop (i + 1)) := by
      conv => lhs; rw [hD]
      rw [live_append, show D[i] :: D.drop (i + 1) = [D[i]] ++ D.drop (i + 1) from rfl, live_append, live_one _ hl]; rfl
    rw [e1, setD, show (v.k == 0) = false by simpa using hv, setGo_mid key v false D[i] hk _ hB _ hA]; simp
  · obtain ⟨hjl, h1, h2⟩ := h.there k' j hj'
    refine ⟨by rw [List.length_set]; exact hjl, ?_⟩
    rw [List.getElem_set]
    split
    · next e => subst e; exact ⟨by rw [← hk]; exact h1, hv⟩
    · exact ⟨h1, h2⟩
  · rw [List.length_set] at hjl
    rw [List.getElem_set] at hlj ⊢
    split
    · next e => subst e; exact hj
    · next e => rw [if_neg e] at hlj; exact h.only j hjl hlj
theorem Inv.strike {D : List Entr} {J : ByteArray → Option Nat} {S : List Entr} (h : Inv D J S) {key : ByteArray} {i : Nat} (hj : J key = some i) {v : Ob} (hv : v.k = 0) : Inv (D.set i (key, nul)) (fun k => if k = key then none else J k) (setD S key v) := by
  obtain ⟨hi, hD, hk, hl, hA, hB⟩ := h.parts hj
  refine ⟨?_, fun k' j hj' => ?_, fun j hjl hlj => ?_⟩
  · rw [← h.live, set_parts hi, live_append, show (key, nul) :: D.drop (i + 1) = [(key, nul)] ++ D.drop (i + 1) from rfl, live_append, live_nul]
    have e1 : Cx.live D = Cx.live (D.take i) ++ D[i] :: Cx.live (D.drop (i + 1)) := by
      conv => lhs; rw [hD]
      rw [live_append, show D[i] :: D.drop (i + 1) = [D[i]] ++ D.drop (i + 1) from rfl, live_append, live_one _ hl]; rfl
    rw [e1, setD, show (v.k == 0) = true by simpa using hv, setGo_mid key v true D[i] hk _ hB _ hA]; simp
  · by_cases e : k' = key
    · rw [if_pos e] at hj'; cases hj'
    · rw [if_neg e] at hj'
      obtain ⟨hjl, h1, h2⟩ := h.there k' j hj'
      refine ⟨by rw [List.length_set]; exact hjl, ?_⟩
      rw [List.getElem_set]
      split
      · next e' => subst e'; exact absurd (h1.symm.trans hk) e
      · exact ⟨h1, h2⟩
  · rw [List.length_set] at hjl
    rw [List.getElem_set] at hlj ⊢
    split
    · next e => subst e; rw [if_pos rfl] at hlj; exact absurd rfl hlj
    · next e =>
      rw [if_neg e] at hlj
      have h1 := h.only j hjl hlj
      by_cases e' : D[j].1 = key
      · rw [e', hj] at h1; injection h1 with h1; exact absurd h1 e
      · rw [if_neg e']; exact h1
theorem Inv.push {D : List Entr} {J : ByteArray → Option Nat} {S : List Entr} (h : Inv D J S) {key : ByteArray} (hj : J key = none) {v : Ob} (hv : v.k ≠ 0) : Inv (D ++ [(key, v)]) (fun k => if k = key then some D.length else J k) (setD S key v) := by
  refine ⟨?_, fun k' j hj' => ?_, fun j hjl hlj => ?_⟩
  · rw [live_append, live_one (key, v) hv, h.live, setD, show (v.k == 0) = false by simpa using hv, setGo_end key v S (h.none_key hj)]
  · by_cases e : k' = key
    · rw [if_pos e] at hj'
      injection hj' with hj'
      subst hj'
      exact ⟨by simp, by rw [List.getElem_append_right (Nat.le_refl _)]; simp; exact ⟨e.symm, hv⟩⟩
    · rw [if_neg e] at hj'
      obtain ⟨hjl, h1, h2⟩ := h.there k' j hj'
      refine ⟨by rw [List.length_append]; omega, ?_⟩
      rw [List.getElem_append_left hjl]; exact ⟨h1, h2⟩
  · rw [List.length_append] at hjl
    by_cases e : j < D.length
    · rw [List.getElem_append_left e] at hlj ⊢
      have h1 := h.only j e hlj
      by_cases e' : D[j].1 = key
      · rw [e', hj] at h1; cases h1
      · rw [if_neg e']; exact h1
    · obtain rfl : j = D.length := by simp at hjl; omega
      rw [List.getElem_append_right (Nat.le_refl _)]; simp
theorem Inv.skip {D : List Entr} {J : ByteArray → Option Nat} {S : List Entr} (h : Inv D J S) {key : ByteArray} (hj : J key = none) {v : Ob} (hv : v.k = 0) : Inv D J (setD S key v) := by
  rw [setD, show (v.k == 0) = true by simpa using hv, setGo_true key v S (h.none_key hj)]; exact h

theorem settle_snoc (L : List Entr) (i : Nat) (h : i < L.length) : settle (L.take (i + 1)) = setD (settle (L.take i)) L[i].1 L[i].2 := by
  unfold settle
  rw [List.take_succ_eq_append_getElem h, List.foldl_append]; rfl

end Go.Proofs.YtbgdeaeikijdgaaGreatDoor.Cx
