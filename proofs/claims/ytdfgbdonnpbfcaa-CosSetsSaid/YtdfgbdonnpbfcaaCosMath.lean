/-
  A token is the same wherever its bytes stand: only its places move.
  Objects as a tree, and what package cos answers over them. Nothing of the program is named here.
  How entries are settled with holes: what is left of them is what Set makes, one behind the other.
  When two objects are the same. Nothing of the program is named here.
  How much an object is: itself, its bytes, its keys and all that stands in it; how deep it is. What few reckons. Nothing of the program is named here.
  Entries set one behind the other, under names that are unlike. Nothing of the program is named here.
  What was set is got, and all else stays. Nothing of the program is named here.
  To be the same is to be so turned round, and of each itself; one that is another's part is not it. Nothing of the program is named here.
  Arrays and dictionaries in one another: what is read of their text, and of what is cut off. Nothing of the program is named here.
-/
import Derived.Test.YtdfgbdonnpbfcaaLexMath
import Derived.Lib.Strings
namespace Go.Proofs.Ytdfgbdonnpbfcaa.Lx

/-- An answer, n bytes further on. -/
def add3 (n : Nat) (x : R3) : R3 := if x.1 = 0 then (x.1, x.2.1, x.2.2 + n) else x

theorem name_shift (n : Nat) (acc : List UInt8) (m : Nat) (l : List UInt8) (k : Nat) : nameGo acc m l (k + n) = add3 n (nameGo acc m l k) := by
  fun_induction nameGo acc m l k with
  | case1 => unfold nameGo; rfl
  | case2 acc k m b r ih => rw [nameGo, ← ih]; congr 1; omega
  | case3 acc k b h1 h2 a c tail h3 ih =>
    rw [nameGo.eq_def]; simp only [h1, h2, h3, if_true]; rw [← ih]; congr 1; omega
  | case4 acc k b h1 h2 a c tail h3 =>
    rw [nameGo.eq_def]; simp only [h1, h2, h3, if_true, if_false, Bool.false_eq_true]; rfl
  | case5 acc b r k h1 h2 h3 =>
    rw [nameGo.eq_def]; simp only [h1, h2, if_true]
    match r, h3 with
    | [], _ => rfl
    | [_], _ => rfl
    | x :: y :: z, h3 => exact absurd rfl (h3 x y z)
  | case6 acc k b r h1 h2 ih =>
    rw [nameGo.eq_def]; simp only [h1, h2, if_true, if_false, Bool.false_eq_true]; rw [← ih]; congr 1; omega
  | case7 acc k b r h1 =>
    rw [nameGo.eq_def]; simp only [h1, if_false, Bool.false_eq_true]; rfl

theorem text_shift (n : Nat) (acc : List UInt8) (d m : Nat) (l : List UInt8) (k : Nat) : textGo acc d m l (k + n) = add3 n (textGo acc d m l k) := by
  fun_induction textGo acc d m l k with
  | case1 => unfold textGo; rfl
  | case2 acc d k m b r ih => rw [textGo, ← ih]; congr 1; omega
  | case3 acc d k b r h1 ih => rw [textGo.eq_def]; simp only [h1, if_true]; rw [← ih]; congr 1; omega
  | case4 acc d k b r h1 h2 ih => rw [textGo.eq_def]; simp only [h1, h2, if_true, if_false, Bool.false_eq_true]; rw [← ih]; congr 1; omega
  | case5 acc k b r h1 h2 h3 => rw [textGo.eq_def]; simp only [h1, h2, h3, if_true, if_false, Bool.false_eq_true]; unfold add3; simp; omega
  | case6 acc k b r h1 h2 h3 d ih => rw [textGo.eq_def]; simp only [h1, h2, h3, if_true, if_false, Bool.false_eq_true]; rw [← ih]; congr 1; omega
  | case7 acc d k b r h1 h2 h3 h4 ih => rw [textGo.eq_def]; simp only [h1, h2, h3, h4, if_true, if_false, Bool.false_eq_true]; rw [← ih]; congr 1; omega
  | case8 acc d k b r h1 h2 h3 h4 ih => rw [textGo.eq_def]; simp only [h1, h2, h3, h4, if_false, Bool.false_eq_true]; rw [← ih]; congr 1; omega

theorem hex_shift (n : Nat) (acc : List UInt8) (h : Option UInt8) (l : List UInt8) (k : Nat) : hexGo acc h l (k + n) = add3 n (hexGo acc h l k) := by
  fun_induction hexGo acc h l k with
  | case1 => unfold hexGo; rfl
  | case2 acc h b r k h1 => rw [hexGo.eq_def]; simp only [h1, if_true]; unfold add3; simp; omega
  | case3 acc h b r k h1 h2 ih => rw [hexGo.eq_def]; simp only [h1, h2, if_true, if_false, Bool.false_eq_true]; rw [← ih]; congr 1; omega
  | case4 acc b r k h1 h2 h3 ih => rw [hexGo.eq_def]; simp only [h1, h2, h3, if_true, if_false, Bool.false_eq_true]; rw [← ih]; congr 1; omega
  | case5 acc b r k h1 h2 h3 u ih => rw [hexGo.eq_def]; simp only [h1, h2, h3, if_true, if_false, Bool.false_eq_true]; rw [← ih]; congr 1; omega
  | case6 acc h b r k h1 h2 h3 => rw [hexGo.eq_def]; simp only [h1, h2, h3, if_false, Bool.false_eq_true]; rfl

/-- A token with its places n further on. -/
def addT (n : Nat) (x : Int × Tok) : Int × Tok := if x.1 = 0 then (x.1, { x.2 with to := x.2.to + n }) else x
theorem ofR3_add (n : Nat) (kind : Int) (x : R3) : ofR3 kind (add3 n x) = addT n (ofR3 kind x) := by
  unfold ofR3 add3 addT
  by_cases h : x.1 = 0
  · simp [h]
  · rw [if_neg h, if_neg h, if_neg h]

theorem tok_shift (a l : List UInt8) (k : Nat) : tokV (a ++ l) (k + a.length) = addT a.length (tokV l k) := by
  have hd : (a ++ l).drop (k + a.length) = l.drop k := by rw [Nat.add_comm, ← List.drop_drop, List.drop_left]
  have hw : wordV (a ++ l) (k + a.length) = addT a.length (wordV l k) := by
    unfold wordV
    rw [hd]
    unfold addT
    split
    · split
      · simp; omega
      · simp
    · simp; omega
  unfold tokV
  rw [hd]
  cases l.drop k with
  | nil => rfl
  | cons b r =>
    simp only []
    rw [show k + a.length + 1 = k + 1 + a.length by omega, show k + a.length + 2 = k + 2 + a.length by omega, hw, hex_shift, name_shift, text_shift, ofR3_add, ofR3_add, ofR3_add]
    split
    · rfl
    split
    · rfl
    split
    · split <;> rfl
    split
    · split <;> rfl
    split
    · rfl
    split
    · rfl
    split <;> rfl

theorem next_zero (l : List UInt8) : nextV l 0 = if (tokV l (spc false l)).1 = 0 then (0, { (tokV l (spc false l)).2 with frm := spc false l }) else ((tokV l (spc false l)).1, zero) := by
  have hs : spaceV l 0 = spc false l := by
    unfold spaceV
    have h0 : (min (max (0 : Int) 0) (l.length : Int)).toNat = 0 := by omega
    rw [h0, List.drop_zero]; omega
  unfold nextV
  rw [if_pos ⟨by omega, by omega⟩, hs]

theorem spc_comment : ∀ (c r : List UInt8), (∀ b ∈ c, inLine b = true) → spc true (c ++ r) = c.length + spc true r
  | [], r, _ => by simp
  | b :: c, r, h => by
    rw [List.cons_append, spc, if_pos (h b List.mem_cons_self), spc_comment c r (fun x hx => h x (List.mem_cons_of_mem _ hx))]
    simp; omega

/-- White and a comment ahead move a token, and nothing else. -/
theorem next_spaces (c l : List UInt8) (hc : ∀ b ∈ c, inLine b = true) :
    nextV ([32, 9, 37] ++ c ++ [10, 0] ++ l) 0 = if (nextV l 0).1 = 0 then (0, { (nextV l 0).2 with frm := (nextV l 0).2.frm + (c.length + 5), to := (nextV l 0).2.to + (c.length + 5) }) else nextV l 0 := by
  have hsp : spc false ([32, 9, 37] ++ c ++ [10, 0] ++ l) = spc false l + (c.length + 5) := by
    have e : [32, 9, 37] ++ c ++ [10, 0] ++ l = 32 :: 9 :: 37 :: (c ++ (10 :: 0 :: l)) := by simp
    rw [e, spc, if_pos (show white 32 = true from rfl), spc, if_pos (show white 9 = true from rfl), spc, if_neg (show ¬ white 37 = true by decide), if_pos (show ((37 : UInt8) == 37) = true from rfl), spc_comment c _ hc, spc, if_neg (show ¬ inLine 10 = true by decide), spc, if_pos (show white 0 = true from rfl)]
    omega
  have hlen : ([32, 9, 37] ++ c ++ [10, 0]).length = c.length + 5 := by simp
  have ht := tok_shift ([32, 9, 37] ++ c ++ [10, 0]) l (spc false l)
  rw [hlen] at ht
  rw [next_zero, hsp, ht, next_zero]
  unfold addT
  by_cases h : (tokV l (spc false l)).1 = 0
  · simp [h]
  · simp [h]

end Go.Proofs.Ytdfgbdonnpbfcaa.Lx

namespace Go.Proofs.Ytdfgbdonnpbfcaa.Cx

inductive Ob where
  | mk (k n f : Int) (s : ByteArray) (l : List Ob) (d : List (ByteArray × Ob))

abbrev Entr := ByteArray × Ob
def Ob.k : Ob → Int | .mk k _ _ _ _ _ => k
def Ob.n : Ob → Int | .mk _ n _ _ _ _ => n
def Ob.f : Ob → Int | .mk _ _ f _ _ _ => f
def Ob.s : Ob → ByteArray | .mk _ _ _ s _ _ => s
def Ob.l : Ob → List Ob | .mk _ _ _ _ l _ => l
def Ob.d : Ob → List Entr | .mk _ _ _ _ _ d => d
theorem Ob.eta (o : Ob) : o = .mk o.k o.n o.f o.s o.l o.d := by cases o; rfl
def nul : Ob := .mk 0 0 0 ⟨#[]⟩ [] []
def Ob.ents (o : Ob) : Bool := o.k == 6 || o.k == 8

/-- Texts are held against each other as the program does. -/
def keq (a b : ByteArray) : Bool := a.toList == b.toList
theorem toList_inj {a b : ByteArray} (h : a.toList = b.toList) : a = b := by
  rw [Lib.toList_data, Lib.toList_data] at h
  have h1 := Array.toList_inj.1 h
  cases a; cases b; simp only at h1; rw [h1]
theorem keq_iff {a b : ByteArray} : keq a b = true ↔ a = b := by
  unfold keq; rw [beq_iff_eq]; exact ⟨toList_inj, fun h => by rw [h]⟩
theorem keq_self (a : ByteArray) : keq a a = true := keq_iff.2 rfl
theorem keq_comm (a b : ByteArray) : keq a b = keq b a := by
  rw [Bool.eq_iff_iff, keq_iff, keq_iff]; exact eq_comm
theorem keq_no {a b : ByteArray} (h : a ≠ b) : keq a b = false := by
  cases e : keq a b
  · rfl
  · exact absurd (keq_iff.1 e) h

/-- The first entry's object of a key. -/
def getD : List Entr → ByteArray → Ob
  | [], _ => nul
  | e :: r, key => if keq e.1 key then e.2 else getD r key
def hasK : List Entr → ByteArray → Bool
  | [], _ => false
  | e :: r, key => keq e.1 key || hasK r key
/-- Where the first entry of a key stands; the length, if there is none. -/
def idxK : List Entr → ByteArray → Nat
  | [], _ => 0
  | e :: r, key => if keq e.1 key then 0 else idxK r key + 1
def get (o : Ob) (key : ByteArray) : Ob := if o.ents then getD o.d key else nul

/-- Set's loop: is it set already? what is left. -/
def setGo (key : ByteArray) (v : Ob) : Bool → List Entr → List Entr
  | set, [] => if set then [] else [(key, v)]
  | set, e :: r => if keq e.1 key then (if set then setGo key v set r else (key, v) :: setGo key v true r) else e :: setGo key v set r
def setD (d : List Entr) (key : ByteArray) (v : Ob) : List Entr := setGo key v (v.k == 0) d
def set (o : Ob) (key : ByteArray) (v : Ob) : Ob := if o.ents then .mk o.k o.n o.f o.s o.l (setD o.d key v) else o

mutual
def Ob.count : Ob → Nat
  | .mk k _ _ _ l d => 1 + (if k = 5 then countL l else 0) + (if k = 6 ∨ k = 8 then countD d else 0)
def countL : List Ob → Nat
  | [] => 0
  | x :: r => x.count + countL r
def countD : List (ByteArray × Ob) → Nat
  | [] => 0
  | (_, x) :: r => x.count + countD r
end

theorem count_mk (k n f : Int) (s : ByteArray) (l : List Ob) (d : List Entr) : (Ob.mk k n f s l d).count = 1 + (if k = 5 then countL l else 0) + (if k = 6 ∨ k = 8 then countD d else 0) := by rw [Ob.count]
theorem countL_cons (x : Ob) (r : List Ob) : countL (x :: r) = x.count + countL r := by rw [countL]
theorem countD_cons (e : Entr) (r : List Entr) : countD (e :: r) = e.2.count + countD r := by cases e; rw [countD]
theorem countL_append : ∀ a b : List Ob, countL (a ++ b) = countL a + countL b
  | [], b => by rw [List.nil_append, countL, Nat.zero_add]
  | x :: a, b => by rw [List.cons_append, countL, countL, countL_append a b]; omega
theorem countD_append : ∀ a b : List Entr, countD (a ++ b) = countD a + countD b
  | [], b => by rw [List.nil_append, countD, Nat.zero_add]
  | x :: a, b => by rw [List.cons_append, countD_cons, countD_cons, countD_append a b]; omega
theorem countL_take_succ (l : List Ob) (i : Nat) (h : i < l.length) : countL (l.take (i + 1)) = countL (l.take i) + l[i].count := by
  rw [List.take_succ_eq_append_getElem h, countL_append, countL_cons, countL]; omega
theorem countD_take_succ (l : List Entr) (i : Nat) (h : i < l.length) : countD (l.take (i + 1)) = countD (l.take i) + l[i].2.count := by
  rw [List.take_succ_eq_append_getElem h, countD_append, countD_cons, countD]; omega
theorem countL_take_le (l : List Ob) (i : Nat) : countL (l.take i) ≤ countL l := by
  have := countL_append (l.take i) (l.drop i)
  rw [List.take_append_drop] at this; omega
theorem countD_take_le (l : List Entr) (i : Nat) : countD (l.take i) ≤ countD l := by
  have := countD_append (l.take i) (l.drop i)
  rw [List.take_append_drop] at this; omega
theorem countL_mem_le {l : List Ob} {x : Ob} (h : x ∈ l) : x.count ≤ countL l := by
  induction l with
  | nil => simp at h
  | cons y r ih =>
    rw [countL_cons]
    rcases List.mem_cons.1 h with rfl | h
    · omega
    · have := ih h; omega
theorem countD_mem_le {l : List Entr} {x : Entr} (h : x ∈ l) : x.2.count ≤ countD l := by
  induction l with
  | nil => simp at h
  | cons y r ih =>
    rw [countD_cons]
    rcases List.mem_cons.1 h with rfl | h
    · omega
    · have := ih h; omega

theorem sizeOf_l {o x : Ob} (h : x ∈ o.l) : SizeOf.sizeOf x < SizeOf.sizeOf o := by
  cases o
  have := List.sizeOf_lt_of_mem h
  simp only [Ob.l] at this
  simp only [Ob.mk.sizeOf_spec]; omega
theorem sizeOf_d {o : Ob} {e : Entr} (h : e ∈ o.d) : SizeOf.sizeOf e.2 < SizeOf.sizeOf o := by
  cases o
  have h1 := List.sizeOf_lt_of_mem h
  simp only [Ob.d] at h1
  have h2 : SizeOf.sizeOf e.2 < SizeOf.sizeOf e := by cases e; simp; omega
  simp only [Ob.mk.sizeOf_spec]; omega

/- The text's own side. -/
open Lx

def wholeT (t : Tok) : Bool := t.kind == 1 && t.whole && decide (0 ≤ t.f)
def isW (t : Tok) (s : List UInt8) : Bool := t.kind == 8 && t.s == s
def str (l : List UInt8) : ByteArray := ⟨l.toArray⟩
def numV (t : Tok) : Ob := .mk 2 (if t.whole then 1 else 0) t.f ⟨#[]⟩ [] []
/-- A token, as a reader that forgets errors takes it. -/
def tokOf (x : Int × Tok) : Tok := if x.1 = 0 then x.2 else zero
/-- A Num or a Ref, and the place behind. -/
def numberV (l : List UInt8) (t : Tok) : Ob × Nat :=
  if wholeT t then
    if wholeT (tokOf (nextV l t.to)) then
      if isW (tokOf (nextV l (tokOf (nextV l t.to)).to)) [82] then (.mk 7 (t.f.tdiv 1000) (tokOf (nextV l t.to)).f ⟨#[]⟩ [] [], (tokOf (nextV l (tokOf (nextV l t.to)).to)).to)
      else (numV t, t.to)
    else (numV t, t.to)
  else (numV t, t.to)
def wordV (s : List UInt8) : Int × Ob :=
  if s == [116, 114, 117, 101] then (0, .mk 1 1 0 ⟨#[]⟩ [] [])
  else if s == [102, 97, 108, 115, 101] then (0, .mk 1 0 0 ⟨#[]⟩ [] [])
  else if s == [110, 117, 108, 108] then (0, nul)
  else (3, nul)
/-- Entries as they were written, settled. -/
def settle (d : List Entr) : List Entr := d.foldl (fun a e => setD a e.1 e.2) []

mutual
/-- The object that begins with a token; fuel, and how deep. -/
def objOf : Nat → List UInt8 → Nat → Tok → Int × Ob × Nat
  | 0, _, _, _ => (3, nul, 0)
  | F + 1, l, dep, t =>
    if t.kind = 0 then (4, nul, 0)
    else if t.kind = 1 then (0, (numberV l t).1, (numberV l t).2)
    else if t.kind = 2 then (0, .mk 3 0 0 (str t.s) [] [], t.to)
    else if t.kind = 3 then (0, .mk 4 0 0 (str t.s) [] [], t.to)
    else if t.kind = 8 then ((wordV t.s).1, (wordV t.s).2, if (wordV t.s).1 = 0 then t.to else 0)
    else if t.kind = 4 then
      if dep = 64 then (5, nul, 0)
      else if (upO F l (dep + 1) [] t.to).1 = 0 then (0, .mk 5 0 0 ⟨#[]⟩ (upO F l (dep + 1) [] t.to).2.1 [], (upO F l (dep + 1) [] t.to).2.2)
      else ((upO F l (dep + 1) [] t.to).1, nul, 0)
    else if t.kind = 6 then
      if dep = 64 then (5, nul, 0)
      else if (upE F l (dep + 1) [] t.to).1 = 0 then (0, .mk 6 0 0 ⟨#[]⟩ [] (settle (upE F l (dep + 1) [] t.to).2.1), (upE F l (dep + 1) [] t.to).2.2)
      else ((upE F l (dep + 1) [] t.to).1, nul, 0)
    else (3, nul, 0)
/-- Objects up to Close. -/
def upO : Nat → List UInt8 → Nat → List Ob → Nat → Int × List Ob × Nat
  | 0, _, _, _, _ => (3, [], 0)
  | F + 1, l, dep, acc, at_ =>
    if (nextV l at_).1 ≠ 0 then ((nextV l at_).1, [], 0)
    else if (nextV l at_).2.kind = 5 then (0, acc, (nextV l at_).2.to)
    else if (nextV l at_).2.kind = 0 then (4, [], 0)
    else if acc.length = 1024 then (6, [], 0)
    else if (objOf F l dep (nextV l at_).2).1 = 0 then upO F l dep (acc ++ [(objOf F l dep (nextV l at_).2).2.1]) (objOf F l dep (nextV l at_).2).2.2
    else ((objOf F l dep (nextV l at_).2).1, [], 0)
/-- Entries up to Finish. -/
def upE : Nat → List UInt8 → Nat → List Entr → Nat → Int × List Entr × Nat
  | 0, _, _, _, _ => (3, [], 0)
  | F + 1, l, dep, acc, at_ =>
    if (nextV l at_).1 ≠ 0 then ((nextV l at_).1, [], 0)
    else if (nextV l at_).2.kind = 7 then (0, acc, (nextV l at_).2.to)
    else if (nextV l at_).2.kind = 0 then (4, [], 0)
    else if acc.length = 1024 then (6, [], 0)
    else if (entOf F l dep (nextV l at_).2).1 = 0 then upE F l dep (acc ++ [(entOf F l dep (nextV l at_).2).2.1]) (entOf F l dep (nextV l at_).2).2.2
    else ((entOf F l dep (nextV l at_).2).1, [], 0)
/-- The entry whose key is a token. -/
def entOf : Nat → List UInt8 → Nat → Tok → Int × Entr × Nat
  | 0, _, _, _ => (3, (⟨#[]⟩, nul), 0)
  | F + 1, l, dep, t =>
    if t.kind ≠ 2 then (3, (⟨#[]⟩, nul), 0)
    else if (nextV l t.to).1 ≠ 0 then ((nextV l t.to).1, (⟨#[]⟩, nul), 0)
    else if (objOf F l dep (nextV l t.to).2).1 = 0 then (0, (str t.s, (objOf F l dep (nextV l t.to).2).2.1), (objOf F l dep (nextV l t.to).2).2.2)
    else ((objOf F l dep (nextV l t.to).2).1, (⟨#[]⟩, nul), 0)
end

/-- The object at a place, and the place behind it. -/
def parse (l : List UInt8) (at_ : Int) : Int × Ob × Nat :=
  if (nextV l at_).1 ≠ 0 then ((nextV l at_).1, nul, 0)
  else objOf (3 * l.length + 2) l 0 (nextV l at_).2

end Go.Proofs.Ytdfgbdonnpbfcaa.Cx

namespace Go.Proofs.Ytdfgbdonnpbfcaa.Cx

def live (D : List Entr) : List Entr := D.filter fun e => e.2.k != 0
theorem live_append (A B : List Entr) : live (A ++ B) = live A ++ live B := by unfold live; rw [List.filter_append]
theorem live_one (e : Entr) (h : e.2.k ≠ 0) : live [e] = [e] := by unfold live; rw [List.filter_cons, if_pos (by simpa using h)]; rfl
theorem live_nul (key : ByteArray) : live [(key, nul)] = [] := rfl

theorem setGo_true (key : ByteArray) (v : Ob) : ∀ L : List Entr, (∀ e ∈ L, e.1 ≠ key) → setGo key v true L = L
  | [], _ => rfl
  | e :: r, h => by
    rw [setGo, keq_no (h e List.mem_cons_self), if_neg (by simp), setGo_true key v r fun x hx => h x (List.mem_cons_of_mem _ hx)]
theorem setGo_end (key : ByteArray) (v : Ob) : ∀ L : List Entr, (∀ e ∈ L, e.1 ≠ key) → setGo key v false L = L ++ [(key, v)]
  | [], _ => rfl
  | e :: r, h => by
    rw [setGo, keq_no (h e List.mem_cons_self), if_neg (by simp), setGo_end key v r fun x hx => h x (List.mem_cons_of_mem _ hx)]; rfl
theorem setGo_mid (key : ByteArray) (v : Ob) (b : Bool) (x : Entr) (hx : x.1 = key) (B : List Entr) (hB : ∀ e ∈ B, e.1 ≠ key) : ∀ A : List Entr, (∀ e ∈ A, e.1 ≠ key) → setGo key v b (A ++ x :: B) = A ++ (if b then [] else [(key, v)]) ++ B
  | [], _ => by
    rw [List.nil_append, setGo, hx, keq_self, if_pos rfl]
    cases b
    · simp only [Bool.false_eq_true, if_false]; rw [setGo_true key v B hB]; rfl
    · simp only [if_true]; rw [setGo_true key v B hB]; rfl
  | e :: r, h => by
    rw [List.cons_append, setGo, keq_no (h e List.mem_cons_self), if_neg (by simp), setGo_mid key v b x hx B hB r fun y hy => h y (List.mem_cons_of_mem _ hy)]; rfl

/-- Entries with holes, and where each key's living one stands. -/
structure Inv (D : List Entr) (J : ByteArray → Option Nat) (S : List Entr) : Prop where
  live : live D = S
  there : ∀ key i, J key = some i → ∃ h : i < D.length, D[i].1 = key ∧ D[i].2.k ≠ 0
  only : ∀ i (h : i < D.length), D[i].2.k ≠ 0 → J D[i].1 = some i

theorem Inv.nil : Inv [] (fun _ => none) [] := ⟨rfl, fun _ _ h => (by simp at h), fun _ h => absurd h (Nat.not_lt_zero _)⟩

theorem live_mem {D : List Entr} {e : Entr} (h : e ∈ live D) : e ∈ D ∧ e.2.k ≠ 0 := by
  unfold live at h
  have := List.mem_filter.1 h
  exact ⟨this.1, by simpa using this.2⟩
theorem Inv.none_key {D : List Entr} {J : ByteArray → Option Nat} {S : List Entr} (h : Inv D J S) {key : ByteArray} (hj : J key = none) : ∀ e ∈ S, e.1 ≠ key := by
  intro e he hk
  rw [← h.live] at he
  obtain ⟨hm, hl⟩ := live_mem he
  obtain ⟨i, hi, rfl⟩ := List.getElem_of_mem hm
  have := h.only i hi hl
  rw [hk, hj] at this; cases this
theorem Inv.parts {D : List Entr} {J : ByteArray → Option Nat} {S : List Entr} (h : Inv D J S) {key : ByteArray} {i : Nat} (hj : J key = some i) :
    ∃ hi : i < D.length, D = D.take i ++ D[i] :: D.drop (i + 1) ∧ D[i].1 = key ∧ D[i].2.k ≠ 0 ∧ (∀ e ∈ Cx.live (D.take i), e.1 ≠ key) ∧ (∀ e ∈ Cx.live (D.drop (i + 1)), e.1 ≠ key) := by
  obtain ⟨hi, hk, hl⟩ := h.there key i hj
  refine ⟨hi, by rw [← List.drop_eq_getElem_cons hi, List.take_append_drop], hk, hl, fun e he hke => ?_, fun e he hke => ?_⟩
  · obtain ⟨hm, hl'⟩ := live_mem he
    obtain ⟨j, hj', rfl⟩ := List.getElem_of_mem hm
    have hjl : j < i ∧ j < D.length := by
      have := hj'; rw [List.length_take] at this; omega
    rw [List.getElem_take] at hl' hke
    have := h.only j hjl.2 hl'
    rw [hke, hj] at this
    injection this with this; omega
  · obtain ⟨hm, hl'⟩ := live_mem he
    obtain ⟨j, hj', rfl⟩ := List.getElem_of_mem hm
    have hjl : i + 1 + j < D.length := by
      have := hj'; rw [List.length_drop] at this; omega
    rw [List.getElem_drop] at hl' hke
    have := h.only (i + 1 + j) hjl hl'
    rw [hke, hj] at this
    injection this with this; omega

theorem set_parts {D : List Entr} {i : Nat} (hi : i < D.length) (y : Entr) : D.set i y = D.take i ++ y :: D.drop (i + 1) := by
  rw [List.set_eq_take_append_cons_drop, if_pos hi]

theorem Inv.replace {D : List Entr} {J : ByteArray → Option Nat} {S : List Entr} (h : Inv D J S) {key : ByteArray} {i : Nat} (hj : J key = some i) {v : Ob} (hv : v.k ≠ 0) : Inv (D.set i (key, v)) J (setD S key v) := by
  obtain ⟨hi, hD, hk, hl, hA, hB⟩ := h.parts hj
  refine ⟨?_, fun k' j hj' => ?_, fun j hjl hlj => ?_⟩
  · rw [← h.live, set_parts hi, live_append, show (key, v) :: D.drop (i + 1) = [(key, v)] ++ D.drop (i + 1) from rfl, live_append, live_one (key, v) hv]
    have e1 : Cx.live D = Cx.live (D.take i) ++ D[i] :: Cx.live (D.drop (i + 1)) := by
      conv => lhs; rw [hD]
      rw [live_append, show D[i] :: D.drop (i + 1) = [D[i]] ++ D.drop (i + 1) from rfl, live_append, live_one _ hl]; rfl
    rw [e1, setD, show (v.k == 0) = false by simpa using hv, setGo_mid key v false D[i] hk _ hB _ hA]; simp
  · obtain ⟨hjl, h1, h2⟩ := h.there k' j hj'
    refine ⟨by rw [List.length_set]; exact hjl, ?_⟩
    rw [List.getElem_set]
    split
    · next e => subst e; exact ⟨by rw [← hk]; exact h1, hv⟩
    · exact ⟨h1, h2⟩
  · rw [List.length_set] at hjl
    rw [List.getElem_set] at hlj ⊢
    split
    · next e => subst e; exact hj
    · next e => rw [if_neg e] at hlj; exact h.only j hjl hlj
theorem Inv.strike {D : List Entr} {J : ByteArray → Option Nat} {S : List Entr} (h : Inv D J S) {key : ByteArray} {i : Nat} (hj : J key = some i) {v : Ob} (hv : v.k = 0) : Inv (D.set i (key, nul)) (fun k => if k = key then none else J k) (setD S key v) := by
  obtain ⟨hi, hD, hk, hl, hA, hB⟩ := h.parts hj
  refine ⟨?_, fun k' j hj' => ?_, fun j hjl hlj => ?_⟩
  · rw [← h.live, set_parts hi, live_append, show (key, nul) :: D.drop (i + 1) = [(key, nul)] ++ D.drop (i + 1) from rfl, live_append, live_nul]
    have e1 : Cx.live D = Cx.live (D.take i) ++ D[i] :: Cx.live (D.drop (i + 1)) := by
      conv => lhs; rw [hD]
      rw [live_append, show D[i] :: D.drop (i + 1) = [D[i]] ++ D.drop (i + 1) from rfl, live_append, live_one _ hl]; rfl
    rw [e1, setD, show (v.k == 0) = true by simpa using hv, setGo_mid key v true D[i] hk _ hB _ hA]; simp
  · by_cases e : k' = key
    · rw [if_pos e] at hj'; cases hj'
    · rw [if_neg e] at hj'
      obtain ⟨hjl, h1, h2⟩ := h.there k' j hj'
      refine ⟨by rw [List.length_set]; exact hjl, ?_⟩
      rw [List.getElem_set]
      split
      · next e' => subst e'; exact absurd (h1.symm.trans hk) e
      · exact ⟨h1, h2⟩
  · rw [List.length_set] at hjl
    rw [List.getElem_set] at hlj ⊢
    split
    · next e => subst e; rw [if_pos rfl] at hlj; exact absurd rfl hlj
    · next e =>
      rw [if_neg e] at hlj
      have h1 := h.only j hjl hlj
      by_cases e' : D[j].1 = key
      · rw [e', hj] at h1; injection h1 with h1; exact absurd h1 e
      · rw [if_neg e']; exact h1
theorem Inv.push {D : List Entr} {J : ByteArray → Option Nat} {S : List Entr} (h : Inv D J S) {key : ByteArray} (hj : J key = none) {v : Ob} (hv : v.k ≠ 0) : Inv (D ++ [(key, v)]) (fun k => if k = key then some D.length else J k) (setD S key v) := by
  refine ⟨?_, fun k' j hj' => ?_, fun j hjl hlj => ?_⟩
  · rw [live_append, live_one (key, v) hv, h.live, setD, show (v.k == 0) = false by simpa using hv, setGo_end key v S (h.none_key hj)]
  · by_cases e : k' = key
    · rw [if_pos e] at hj'
      injection hj' with hj'
      subst hj'
      exact ⟨by simp, by rw [List.getElem_append_right (Nat.le_refl _)]; simp; exact ⟨e.symm, hv⟩⟩
    · rw [if_neg e] at hj'
      obtain ⟨hjl, h1, h2⟩ := h.there k' j hj'
      refine ⟨by rw [List.length_append]; omega, ?_⟩
      rw [List.getElem_append_left hjl]; exact ⟨h1, h2⟩
  · rw [List.length_append] at hjl
    by_cases e : j < D.length
    · rw [List.getElem_append_left e] at hlj ⊢
      have h1 := h.only j e hlj
      by_cases e' : D[j].1 = key
      · rw [e', hj] at h1; cases h1
      · rw [if_neg e']; exact h1
    · obtain rfl : j = D.length := by simp at hjl; omega
      rw [List.getElem_append_right (Nat.le_refl _)]; simp
theorem Inv.skip {D : List Entr} {J : ByteArray → Option Nat} {S : List Entr} (h : Inv D J S) {key : ByteArray} (hj : J key = none) {v : Ob} (hv : v.k = 0) : Inv D J (setD S key v) := by
  rw [setD, show (v.k == 0) = true by simpa using hv, setGo_true key v S (h.none_key hj)]; exact h

theorem settle_snoc (L : List Entr) (i : Nat) (h : i < L.length) : settle (L.take (i + 1)) = setD (settle (L.take i)) L[i].1 L[i].2 := by
  unfold settle
  rw [List.take_succ_eq_append_getElem h, List.foldl_append]; rfl

end Go.Proofs.Ytdfgbdonnpbfcaa.Cx

namespace Go.Proofs.Ytdfgbdonnpbfcaa.Cx

mutual
def Ob.same : Ob → Ob → Bool
  | .mk k n f s l d, b => k == b.k && f == b.f && keq s b.s && (n == b.n || k == 2) && sameL l b.l && (nkGo [] d == nkGo [] b.d && sameE [] d b.d)
def sameL : List Ob → List Ob → Bool
  | [], [] => true
  | x :: r, y :: q => x.same y && sameL r q
  | [], _ :: _ => false
  | _ :: _, [] => false
/-- Each entry that is the first one of its key has one that is the same. -/
def sameE : List (ByteArray × Ob) → List (ByteArray × Ob) → List (ByteArray × Ob) → Bool
  | _, [], _ => true
  | seen, (key, x) :: r, b => (hasK seen key || (hasK b key && x.same (getD b key))) && sameE (seen ++ [(key, x)]) r b
/-- How many keys there are. -/
def nkGo : List (ByteArray × Ob) → List (ByteArray × Ob) → Nat
  | _, [] => 0
  | seen, (key, x) :: r => (if hasK seen key then 0 else 1) + nkGo (seen ++ [(key, x)]) r
end

theorem same_mk (k n f : Int) (s : ByteArray) (l : List Ob) (d : List Entr) (b : Ob) : (Ob.mk k n f s l d).same b = (k == b.k && f == b.f && keq s b.s && (n == b.n || k == 2) && sameL l b.l && (nkGo [] d == nkGo [] b.d && sameE [] d b.d)) := by rw [Ob.same]
theorem same_eq (a b : Ob) : a.same b = (a.k == b.k && a.f == b.f && keq a.s b.s && (a.n == b.n || a.k == 2) && sameL a.l b.l && (nkGo [] a.d == nkGo [] b.d && sameE [] a.d b.d)) := by
  obtain ⟨k, n, f, s, l, d⟩ := a
  exact same_mk k n f s l d b
theorem sameE_cons (seen : List Entr) (e : Entr) (r b : List Entr) : sameE seen (e :: r) b = ((hasK seen e.1 || (hasK b e.1 && e.2.same (getD b e.1))) && sameE (seen ++ [e]) r b) := by cases e; rw [sameE]
theorem nkGo_cons (seen : List Entr) (e : Entr) (r : List Entr) : nkGo seen (e :: r) = (if hasK seen e.1 then 0 else 1) + nkGo (seen ++ [e]) r := by cases e; rw [nkGo]
theorem sameL_len : ∀ a b : List Ob, a.length ≠ b.length → sameL a b = false
  | [], [], h => absurd rfl h
  | x :: r, y :: q, h => by rw [sameL, sameL_len r q (by simpa using h), Bool.and_false]
  | [], _ :: _, _ => by rw [sameL]
  | _ :: _, [], _ => by rw [sameL]
theorem sameL_step (a b : List Ob) (i : Nat) (h1 : i < a.length) (h2 : i < b.length) : sameL (a.drop i) (b.drop i) = (a[i].same b[i] && sameL (a.drop (i + 1)) (b.drop (i + 1))) := by
  rw [List.drop_eq_getElem_cons h1, List.drop_eq_getElem_cons h2, sameL]

theorem hasK_append : ∀ (a b : List Entr) (key : ByteArray), hasK (a ++ b) key = (hasK a key || hasK b key)
  | [], b, key => by rw [List.nil_append, hasK, Bool.false_or]
  | e :: r, b, key => by rw [List.cons_append, hasK, hasK, hasK_append r b key, Bool.or_assoc]
theorem idxK_append_l : ∀ (a b : List Entr) (key : ByteArray), hasK a key = true → idxK (a ++ b) key = idxK a key
  | [], b, key, h => by rw [hasK] at h; cases h
  | e :: r, b, key, h => by
    rw [List.cons_append, idxK, idxK]
    rw [hasK] at h
    cases he : keq e.1 key
    · rw [he, Bool.false_or] at h
      rw [idxK_append_l r b key h]
    · simp
theorem idxK_append_r : ∀ (a b : List Entr) (key : ByteArray), hasK a key = false → idxK (a ++ b) key = a.length + idxK b key
  | [], b, key, h => by simp
  | e :: r, b, key, h => by
    rw [hasK, Bool.or_eq_false_iff] at h
    rw [List.cons_append, idxK, h.1, idxK_append_r r b key h.2, List.length_cons]
    simp; omega
theorem idxK_lt : ∀ (d : List Entr) (key : ByteArray), hasK d key = true → idxK d key < d.length
  | [], key, h => by rw [hasK] at h; cases h
  | e :: r, key, h => by
    rw [hasK] at h
    rw [idxK, List.length_cons]
    cases he : keq e.1 key
    · rw [he, Bool.false_or] at h
      have := idxK_lt r key h
      simp; omega
    · simp
theorem getD_idx : ∀ (d : List Entr) (key : ByteArray) (h : idxK d key < d.length), d[idxK d key].1 = key ∧ d[idxK d key].2 = getD d key
  | [], key, h => absurd h (Nat.not_lt_zero _)
  | e :: r, key, h => by
    cases he : keq e.1 key
    · have e1 : idxK (e :: r) key = idxK r key + 1 := by rw [idxK, he]; rfl
      have h' : idxK r key < r.length := by rw [e1, List.length_cons] at h; omega
      have ih := getD_idx r key h'
      have e2 : getD (e :: r) key = getD r key := by rw [getD, he]; rfl
      rw [e2]
      simp only [e1, List.getElem_cons_succ]
      exact ih
    · have e1 : idxK (e :: r) key = 0 := by rw [idxK, he]; rfl
      have e2 : getD (e :: r) key = e.2 := by rw [getD, he]; rfl
      rw [e2]
      simp only [e1, List.getElem_cons_zero]
      exact ⟨keq_iff.1 he, trivial⟩

/-- Where each key's first entry stands. -/
def fstJ (d : List Entr) (key : ByteArray) : Option Nat := if hasK d key then some (idxK d key) else none
theorem fstJ_nil : fstJ [] = fun _ => none := by funext k; rfl
theorem hasK_self (e : Entr) : hasK [e] e.1 = true := by rw [hasK, keq_self]; rfl
theorem fstJ_old {d : List Entr} {e : Entr} (h : hasK d e.1 = true) : fstJ (d ++ [e]) = fstJ d := by
  funext k
  unfold fstJ
  rw [hasK_append]
  cases hk : hasK d k
  · have hne : keq e.1 k = false := by
      cases he : keq e.1 k
      · rfl
      · rw [← keq_iff.1 he, h] at hk; cases hk
    rw [hasK, hne, hasK]; rfl
  · rw [idxK_append_l d [e] k hk]; simp
theorem fstJ_new {d : List Entr} {e : Entr} (h : hasK d e.1 = false) : fstJ (d ++ [e]) = fun k => if k = e.1 then some d.length else fstJ d k := by
  funext k
  unfold fstJ
  rw [hasK_append]
  by_cases hk : k = e.1
  · rw [if_pos hk, hk, h, hasK_self, idxK_append_r d [e] e.1 h, idxK, keq_self]; simp
  · rw [if_neg hk, hasK, keq_no (fun e' => hk e'.symm), hasK, Bool.or_false, Bool.or_false]
    cases hd : hasK d k
    · rfl
    · rw [idxK_append_l d [e] k hd]
theorem fstJ_some {d : List Entr} {key : ByteArray} {j : Nat} (h : fstJ d key = some j) : hasK d key = true ∧ j = idxK d key ∧ ∃ hj : j < d.length, d[j].2 = getD d key := by
  unfold fstJ at h
  cases hk : hasK d key
  · rw [hk] at h; cases h
  · rw [hk, if_pos rfl] at h
    injection h with h
    subst h
    exact ⟨rfl, rfl, idxK_lt d key hk, (getD_idx d key (idxK_lt d key hk)).2⟩
theorem fstJ_none {d : List Entr} {key : ByteArray} (h : fstJ d key = none) : hasK d key = false := by
  unfold fstJ at h
  cases hk : hasK d key
  · rfl
  · rw [hk] at h; cases h
theorem hasK_mem : ∀ {d : List Entr} {e : Entr}, e ∈ d → hasK d e.1 = true
  | [], _, h => absurd h List.not_mem_nil
  | x :: r, e, h => by
    rw [hasK]
    rcases List.mem_cons.1 h with rfl | h
    · rw [keq_self, Bool.true_or]
    · rw [hasK_mem h, Bool.or_true]
theorem hasK_at (d : List Entr) (i : Nat) (hi : i < d.length) : hasK d d[i].1 = true := hasK_mem (List.getElem_mem hi)
theorem fstJ_at (d : List Entr) (i : Nat) (hi : i < d.length) : fstJ d d[i].1 = some i ↔ hasK (d.take i) d[i].1 = false := by
  have hsp : d = d.take i ++ d[i] :: d.drop (i + 1) := by rw [← List.drop_eq_getElem_cons hi, List.take_append_drop]
  have hlen : (d.take i).length = i := by rw [List.length_take]; omega
  unfold fstJ
  rw [hasK_at d i hi, if_pos rfl]
  cases ht : hasK (d.take i) d[i].1
  · simp only [iff_true]
    have : idxK d d[i].1 = i := by
      conv => lhs; arg 1; rw [hsp]
      rw [idxK_append_r _ _ _ ht, hlen, idxK, keq_self]; simp
    rw [this]
  · simp only [Bool.true_eq_false, iff_false]
    intro e
    injection e with e
    have h1 : idxK d d[i].1 = idxK (d.take i) d[i].1 := by
      conv => lhs; arg 1; rw [hsp]
      rw [idxK_append_l _ _ _ ht]
    have h2 := idxK_lt _ _ ht
    rw [hlen] at h2
    omega
theorem nkGo_snoc (e : Entr) : ∀ (a seen : List Entr), nkGo seen (a ++ [e]) = nkGo seen a + (if hasK (seen ++ a) e.1 then 0 else 1)
  | [], seen => by rw [List.nil_append, nkGo_cons, nkGo, nkGo, List.append_nil]; omega
  | x :: r, seen => by
    rw [List.cons_append, nkGo_cons, nkGo_cons, nkGo_snoc e r (seen ++ [x]), List.append_assoc]
    simp only [List.cons_append, List.nil_append]; omega
theorem nkGo_le : ∀ (a seen : List Entr), nkGo seen a ≤ a.length
  | [], seen => by rw [nkGo]; exact Nat.zero_le _
  | x :: r, seen => by
    rw [nkGo_cons, List.length_cons]
    have := nkGo_le r (seen ++ [x])
    split <;> omega
theorem sameE_step (a b : List Entr) (i : Nat) (hi : i < a.length) : sameE (a.take i) (a.drop i) b = ((hasK (a.take i) a[i].1 || (hasK b a[i].1 && a[i].2.same (getD b a[i].1))) && sameE (a.take (i + 1)) (a.drop (i + 1)) b) := by
  rw [List.drop_eq_getElem_cons hi, sameE_cons, ← List.take_succ_eq_append_getElem hi]

end Go.Proofs.Ytdfgbdonnpbfcaa.Cx

namespace Go.Proofs.Ytdfgbdonnpbfcaa.Cx

mutual
def Ob.wt : Ob → Nat
  | .mk _ _ _ s l d => 1 + s.size + wtL l + wtD d
def wtL : List Ob → Nat
  | [] => 0
  | x :: r => x.wt + wtL r
def wtD : List (ByteArray × Ob) → Nat
  | [] => 0
  | (key, x) :: r => key.size + x.wt + wtD r
end
theorem wt_eq (o : Ob) : o.wt = 1 + o.s.size + wtL o.l + wtD o.d := by
  obtain ⟨k, n, f, s, l, d⟩ := o
  rw [Ob.wt]; rfl
theorem wtD_cons (e : Entr) (r : List Entr) : wtD (e :: r) = e.1.size + e.2.wt + wtD r := by cases e; rw [wtD]
theorem wtL_cons (x : Ob) (r : List Ob) : wtL (x :: r) = x.wt + wtL r := by rw [wtL]
theorem wt_pos (o : Ob) : 1 ≤ o.wt := by rw [wt_eq]; omega
theorem wtL_len : ∀ l : List Ob, l.length ≤ wtL l
  | [] => Nat.zero_le _
  | x :: r => by
    have := wtL_len r
    have := wt_pos x
    rw [wtL_cons, List.length_cons]; omega
theorem wtD_len : ∀ l : List Entr, l.length ≤ wtD l
  | [] => Nat.zero_le _
  | x :: r => by
    have := wtD_len r
    have := wt_pos x.2
    rw [wtD_cons, List.length_cons]; omega
theorem wtL_mem {l : List Ob} {x : Ob} (h : x ∈ l) : x.wt ≤ wtL l := by
  induction l with
  | nil => simp at h
  | cons y r ih =>
    rw [wtL_cons]
    rcases List.mem_cons.1 h with rfl | h
    · omega
    · have := ih h; omega
theorem wtD_mem {l : List Entr} {x : Entr} (h : x ∈ l) : x.1.size + x.2.wt ≤ wtD l := by
  induction l with
  | nil => simp at h
  | cons y r ih =>
    rw [wtD_cons]
    rcases List.mem_cons.1 h with rfl | h
    · omega
    · have := ih h; omega
theorem wt_l {o x : Ob} (h : x ∈ o.l) : x.wt < o.wt := by
  have := wtL_mem h
  rw [wt_eq o]; omega
theorem wt_d {o : Ob} {e : Entr} (h : e ∈ o.d) : e.1.size + e.2.wt < o.wt := by
  have := wtD_mem h
  rw [wt_eq o]; omega
theorem wt_len (o : Ob) : o.l.length < o.wt ∧ o.d.length < o.wt ∧ o.s.size < o.wt := by
  have h1 := wtL_len o.l
  have h2 := wtD_len o.d
  rw [wt_eq o]; omega
theorem wtL_append : ∀ a b : List Ob, wtL (a ++ b) = wtL a + wtL b
  | [], b => by rw [List.nil_append, wtL, Nat.zero_add]
  | x :: a, b => by rw [List.cons_append, wtL, wtL, wtL_append a b]; omega
theorem wtD_append : ∀ a b : List Entr, wtD (a ++ b) = wtD a + wtD b
  | [], b => by rw [List.nil_append, wtD, Nat.zero_add]
  | x :: a, b => by rw [List.cons_append, wtD_cons, wtD_cons, wtD_append a b]; omega
theorem wtL_take_succ (l : List Ob) (i : Nat) (h : i < l.length) : wtL (l.take (i + 1)) = wtL (l.take i) + l[i].wt := by
  rw [List.take_succ_eq_append_getElem h, wtL_append, wtL_cons, wtL]; omega
theorem wtD_take_succ (l : List Entr) (i : Nat) (h : i < l.length) : wtD (l.take (i + 1)) = wtD (l.take i) + (l[i].1.size + l[i].2.wt) := by
  rw [List.take_succ_eq_append_getElem h, wtD_append, wtD_cons, wtD]; omega

mutual
/-- What few reckons: how many of so many are left; less than 0: too much, or too deep. -/
def few : Ob → Int → Nat → Int
  | .mk _ _ _ s l d, left, dep => if 200 < dep then -1 else fewD d (fewL l (left - 1 - s.size) dep) dep
def fewL : List Ob → Int → Nat → Int
  | [], left, _ => left
  | x :: r, left, dep => if 0 ≤ left then fewL r (few x left (dep + 1)) dep else left
def fewD : List (ByteArray × Ob) → Int → Nat → Int
  | [], left, _ => left
  | (key, x) :: r, left, dep => if 0 ≤ left then fewD r (few x (left - key.size) (dep + 1)) dep else left
end
theorem few_eq (o : Ob) (left : Int) (dep : Nat) : few o left dep = if 200 < dep then -1 else fewD o.d (fewL o.l (left - 1 - o.s.size) dep) dep := by
  obtain ⟨k, n, f, s, l, d⟩ := o
  rw [few]; rfl
theorem fewL_cons (x : Ob) (r : List Ob) (left : Int) (dep : Nat) : fewL (x :: r) left dep = if 0 ≤ left then fewL r (few x left (dep + 1)) dep else left := by rw [fewL]
theorem fewD_cons (e : Entr) (r : List Entr) (left : Int) (dep : Nat) : fewD (e :: r) left dep = if 0 ≤ left then fewD r (few e.2 (left - e.1.size) (dep + 1)) dep else left := by cases e; rw [fewD]
theorem fewL_neg (l : List Ob) (left : Int) (dep : Nat) (h : left < 0) : fewL l left dep = left := by
  cases l with
  | nil => rw [fewL]
  | cons x r => rw [fewL_cons, if_neg (by omega)]
theorem fewD_neg (l : List Entr) (left : Int) (dep : Nat) (h : left < 0) : fewD l left dep = left := by
  cases l with
  | nil => rw [fewD]
  | cons x r => rw [fewD_cons, if_neg (by omega)]

mutual
/-- Where few says that something is left, it is what is not reckoned yet. -/
theorem few_some : ∀ (o : Ob) (left : Int) (dep : Nat), 0 ≤ few o left dep → few o left dep = left - o.wt
  | .mk k n f s l d, left, dep, h => by
    rw [few] at h ⊢
    by_cases hd : 200 < dep
    · rw [if_pos hd] at h; omega
    · rw [if_neg hd] at h ⊢
      have h1 : 0 ≤ fewL l (left - 1 - s.size) dep := by
        rcases Int.lt_or_le (fewL l (left - 1 - s.size) dep) 0 with hn | hn
        · rw [fewD_neg _ _ _ hn] at h; omega
        · exact hn
      rw [fewD_some d _ dep h, fewL_some l _ dep h1, Ob.wt]; omega
theorem fewL_some : ∀ (l : List Ob) (left : Int) (dep : Nat), 0 ≤ fewL l left dep → fewL l left dep = left - wtL l
  | [], left, dep, _ => by rw [fewL, wtL]; omega
  | x :: r, left, dep, h => by
    rw [fewL] at h ⊢
    by_cases h0 : 0 ≤ left
    · rw [if_pos h0] at h ⊢
      have h1 : 0 ≤ few x left (dep + 1) := by
        rcases Int.lt_or_le (few x left (dep + 1)) 0 with hn | hn
        · rw [fewL_neg _ _ _ hn] at h; omega
        · exact hn
      rw [fewL_some r _ dep h, few_some x _ _ h1, wtL]; omega
    · rw [if_neg h0] at h; omega
theorem fewD_some : ∀ (l : List (ByteArray × Ob)) (left : Int) (dep : Nat), 0 ≤ fewD l left dep → fewD l left dep = left - wtD l
  | [], left, dep, _ => by rw [fewD, wtD]; omega
  | (key, x) :: r, left, dep, h => by
    rw [fewD] at h ⊢
    by_cases h0 : 0 ≤ left
    · rw [if_pos h0] at h ⊢
      have h1 : 0 ≤ few x (left - key.size) (dep + 1) := by
        rcases Int.lt_or_le (few x (left - key.size) (dep + 1)) 0 with hn | hn
        · rw [fewD_neg _ _ _ hn] at h; omega
        · exact hn
      rw [fewD_some r _ dep h, few_some x _ _ h1, wtD]; omega
    · rw [if_neg h0] at h; omega
end

theorem few_le (o : Ob) (left : Int) (dep : Nat) (h : 0 ≤ few o left dep) : (o.wt : Int) ≤ left := by
  have := few_some o left dep h; omega

/-- All texts of an object, and lists, are no longer than can be. -/
inductive Ob.Fits (M : Nat) : Ob → Prop
  | mk (k n f : Int) (s : ByteArray) (l : List Ob) (d : List (ByteArray × Ob)) (hs : s.size ≤ M) (hl : l.length ≤ M) (hd : d.length ≤ M) (hL : ∀ x ∈ l, Ob.Fits M x) (hK : ∀ e ∈ d, e.1.size ≤ M) (hD : ∀ e ∈ d, Ob.Fits M e.2) : Ob.Fits M (.mk k n f s l d)
theorem Ob.Fits.s {M : Nat} {o : Ob} (h : Ob.Fits M o) : o.s.size ≤ M ∧ o.l.length ≤ M ∧ o.d.length ≤ M := by cases h with | mk k n f s l d hs hl hd _ _ _ => exact ⟨hs, hl, hd⟩
theorem Ob.Fits.l {M : Nat} {o x : Ob} (h : Ob.Fits M o) (hx : x ∈ o.l) : Ob.Fits M x := by cases h with | mk k n f s l d hs hl hd hL _ _ => exact hL x hx
theorem Ob.Fits.d {M : Nat} {o : Ob} {e : Entr} (h : Ob.Fits M o) (he : e ∈ o.d) : e.1.size ≤ M ∧ Ob.Fits M e.2 := by cases h with | mk k n f s l d hs hl hd _ hK hD => exact ⟨hK e he, hD e he⟩

mutual
/-- What few answers is no less than this. -/
theorem few_lo (M : Nat) : ∀ (o : Ob) (left : Int) (dep : Nat), Ob.Fits M o → -1 - M ≤ left → -2 - 2 * (M : Int) ≤ few o left dep ∧ few o left dep ≤ max left 0
  | .mk k n f s l d, left, dep, h, hm => by
    rw [few]
    split
    · omega
    · have hs := h.s.1
      simp only [Ob.s] at hs
      have h1 := fewL_lo M l (left - 1 - s.size) dep (fun x hx => h.l hx) (by omega)
      have h2 := fewD_lo M d (fewL l (left - 1 - s.size) dep) dep (fun e he => h.d he) h1.1
      omega
theorem fewL_lo (M : Nat) : ∀ (l : List Ob) (left : Int) (dep : Nat), (∀ x ∈ l, Ob.Fits M x) → -2 - 2 * (M : Int) ≤ left → -2 - 2 * (M : Int) ≤ fewL l left dep ∧ fewL l left dep ≤ max left 0
  | [], left, dep, _, hm => by rw [fewL]; omega
  | x :: r, left, dep, h, hm => by
    rw [fewL]
    split
    · next h0 =>
      have h1 := few_lo M x left (dep + 1) (h x List.mem_cons_self) (by omega)
      have h2 := fewL_lo M r (few x left (dep + 1)) dep (fun y hy => h y (List.mem_cons_of_mem _ hy)) h1.1
      omega
    · omega
theorem fewD_lo (M : Nat) : ∀ (l : List (ByteArray × Ob)) (left : Int) (dep : Nat), (∀ e ∈ l, e.1.size ≤ M ∧ Ob.Fits M e.2) → -2 - 2 * (M : Int) ≤ left → -2 - 2 * (M : Int) ≤ fewD l left dep ∧ fewD l left dep ≤ max left 0
  | [], left, dep, _, hm => by rw [fewD]; omega
  | (key, x) :: r, left, dep, h, hm => by
    rw [fewD]
    split
    · next h0 =>
      have hk := h (key, x) List.mem_cons_self
      simp only [] at hk
      have h1 := few_lo M x (left - key.size) (dep + 1) hk.2 (by omega)
      have h2 := fewD_lo M r (few x (left - key.size) (dep + 1)) dep (fun y hy => h y (List.mem_cons_of_mem _ hy)) h1.1
      omega
    · omega
end

end Go.Proofs.Ytdfgbdonnpbfcaa.Cx

namespace Go.Proofs.Ytdfgbdonnpbfcaa.Cx
set_option linter.unusedSimpArgs false
set_option linter.unusedVariables false

def oW (f : Int) : Ob := .mk 2 1 f ⟨#[]⟩ [] []
def nb : List UInt8 := [97, 98, 99, 100, 101, 102, 103, 104, 105, 106, 107, 108, 109, 110, 111, 112, 113, 114, 115, 116, 117, 118, 119, 120, 121, 122, 65, 66, 67, 68, 69, 70, 71]
def nm (i : Nat) : ByteArray := ⟨#[nb.getD i 0]⟩
theorem nb_inj : ∀ i < 32, ∀ j < 32, nb.getD i 0 = nb.getD j 0 → i = j := by decide
theorem nm_ne {i j : Nat} (hi : i < 32) (hj : j < 32) (h : i ≠ j) : nm i ≠ nm j := by
  intro e
  refine h (nb_inj i hi j hj ?_)
  have : (nm i).data.toList = (nm j).data.toList := by rw [e]
  simpa [nm] using this

/-- The entries from the a-th on, n of them. -/
def es : Nat → Nat → List Entr
  | _, 0 => []
  | a, n + 1 => (nm a, oW (1000 * a)) :: es (a + 1) n
theorem es_len : ∀ a n, (es a n).length = n
  | _, 0 => rfl
  | a, n + 1 => by rw [es, List.length_cons, es_len]
theorem es_get : ∀ (a n i : Nat) (h : i < (es a n).length), (es a n)[i] = (nm (a + i), oW (1000 * ((a + i : Nat) : Int)))
  | _, 0, i, h => absurd h (Nat.not_lt_zero _)
  | a, n + 1, 0, _ => rfl
  | a, n + 1, i + 1, h => by
    have := es_get (a + 1) n i (by rw [es, List.length_cons] at h; omega)
    simp only [es, List.getElem_cons_succ]
    rw [this, show a + 1 + i = a + (i + 1) by omega]
theorem es_snoc : ∀ a n, es a (n + 1) = es a n ++ [(nm (a + n), oW (1000 * ((a + n : Nat) : Int)))]
  | a, 0 => rfl
  | a, n + 1 => by
    rw [es, es_snoc (a + 1) n, es, List.cons_append, show a + 1 + n = a + (n + 1) by omega]
theorem es_key {a n i : Nat} (h : a + n ≤ 32) (hi : i < 32) (hx : i < a ∨ a + n ≤ i) : ∀ e ∈ es a n, e.1 ≠ nm i := by
  intro e he
  obtain ⟨j, hj, rfl⟩ := List.getElem_of_mem he
  rw [es_get a n j hj]
  rw [es_len] at hj
  exact nm_ne (by omega) hi (by omega)
theorem es_set (n : Nat) (h : n < 32) : setD (es 0 n) (nm n) (oW (1000 * n)) = es 0 (n + 1) := by
  unfold setD
  rw [show ((oW (1000 * n)).k == 0) = false from rfl, setGo_end _ _ _ (es_key (by omega) h (.inr (by omega))), es_snoc, Nat.zero_add]
theorem es_del (a n : Nat) (h : a + (n + 1) ≤ 32) : setD (es a (n + 1)) (nm a) nul = es (a + 1) n := by
  unfold setD
  rw [show (nul.k == 0) = true from rfl, es, setGo, keq_self, if_pos rfl, if_pos rfl, setGo_true _ _ _ (es_key (by omega) (by omega) (.inl (by omega)))]
theorem es_getD : ∀ (a n i : Nat), a + n ≤ 32 → a ≤ i → i < a + n → getD (es a n) (nm i) = oW (1000 * i)
  | a, 0, i, _, _, h => by omega
  | a, n + 1, i, h, h1, h2 => by
    rw [es, getD]
    by_cases e : a = i
    · subst e; rw [keq_self]; rfl
    · rw [keq_no (nm_ne (by omega) (by omega) e), if_neg (by simp)]
      exact es_getD (a + 1) n i (by omega) (by omega) (by omega)
theorem es_count : ∀ a n, countD (es a n) = n
  | _, 0 => rfl
  | a, n + 1 => by rw [es, countD_cons, es_count (a + 1) n]; show 1 + n = n + 1; omega

/-- The object after so many are set, and after so many are gone. -/
def oN (k : Int) (a n : Nat) : Ob := .mk k 0 0 ⟨#[]⟩ [] (es a n)
theorem oN_set {k : Int} (hk : k = 6 ∨ k = 8) (n : Nat) (h : n < 32) : Cx.set (oN k 0 n) (nm n) (oW (1000 * n)) = oN k 0 (n + 1) := by
  unfold Cx.set oN Ob.ents
  rcases hk with rfl | rfl <;> simp [Ob.k, Ob.n, Ob.f, Ob.s, Ob.l, Ob.d, es_set n h]
theorem oN_del {k : Int} (hk : k = 6 ∨ k = 8) (a n : Nat) (h : a + (n + 1) ≤ 32) : Cx.set (oN k a (n + 1)) (nm a) nul = oN k (a + 1) n := by
  unfold Cx.set oN Ob.ents
  rcases hk with rfl | rfl <;> simp [Ob.k, Ob.n, Ob.f, Ob.s, Ob.l, Ob.d, es_del a n h]
theorem oN_get {k : Int} (hk : k = 6 ∨ k = 8) (n i : Nat) (h : n ≤ 32) (hi : i < n) : Cx.get (oN k 0 n) (nm i) = oW (1000 * i) := by
  unfold Cx.get oN Ob.ents
  rcases hk with rfl | rfl <;> simp [Ob.k, Ob.d, es_getD 0 n i (by omega) (by omega) (by omega)]
theorem oN_count {k : Int} (hk : k = 6 ∨ k = 8) (n : Nat) : (oN k 0 n).count = n + 1 := by
  unfold oN
  rcases hk with rfl | rfl <;> simp [count_mk, es_count] <;> omega

end Go.Proofs.Ytdfgbdonnpbfcaa.Cx

namespace Go.Proofs.Ytdfgbdonnpbfcaa.Cx
set_option linter.unusedSimpArgs false
set_option linter.unusedVariables false

theorem hasK_setGo_true (key : ByteArray) (v : Ob) : ∀ d : List Entr, hasK (setGo key v true d) key = false
  | [] => by rw [setGo, if_pos rfl, hasK]
  | e :: r => by
    rw [setGo]
    cases he : keq e.1 key
    · rw [if_neg (by simp), hasK, he, hasK_setGo_true key v r]; rfl
    · rw [if_pos rfl, if_pos rfl]; exact hasK_setGo_true key v r
theorem getD_none : ∀ (d : List Entr) (key : ByteArray), hasK d key = false → getD d key = nul
  | [], _, _ => rfl
  | e :: r, key, h => by
    rw [hasK, Bool.or_eq_false_iff] at h
    rw [getD, h.1, if_neg (by simp)]; exact getD_none r key h.2
theorem getD_setGo_false (key : ByteArray) (v : Ob) : ∀ d : List Entr, getD (setGo key v false d) key = v
  | [] => by rw [setGo, if_neg (by simp), getD, keq_self]; rfl
  | e :: r => by
    rw [setGo]
    cases he : keq e.1 key
    · rw [if_neg (by simp), getD, he, if_neg (by simp)]; exact getD_setGo_false key v r
    · rw [if_pos rfl, if_neg (by simp), getD, keq_self]; rfl
theorem getD_setGo_other (key other : ByteArray) (v : Ob) (h : keq key other = false) : ∀ (b : Bool) (d : List Entr), getD (setGo key v b d) other = getD d other
  | true, [] => by rw [setGo, if_pos rfl]
  | false, [] => by rw [setGo, if_neg (by simp)]; show (if keq key other then v else nul) = nul; rw [h]; rfl
  | b, e :: r => by
    rw [setGo]
    cases he : keq e.1 key
    · rw [if_neg (by simp), getD, getD, getD_setGo_other key other v h b r]
    · have hn : keq e.1 other = false := by rw [keq_iff.1 he]; exact h
      rw [if_pos rfl]
      cases b
      · rw [if_neg (by simp), getD, h, if_neg (by simp), getD_setGo_other key other v h true r, getD, hn]; rfl
      · rw [if_pos rfl, getD_setGo_other key other v h true r, getD, hn]; rfl
theorem setGo_nokey (key : ByteArray) (v : Ob) : ∀ (d : List Entr), ∀ e ∈ setGo key v true d, e.1 ≠ key
  | [], e, h => by rw [setGo, if_pos rfl] at h; exact absurd h List.not_mem_nil
  | x :: r, e, h => by
    rw [setGo] at h
    cases he : keq x.1 key
    · rw [he, if_neg (by simp)] at h
      rcases List.mem_cons.1 h with rfl | h
      · intro e'; rw [keq_iff.2 e'] at he; cases he
      · exact setGo_nokey key v r e h
    · rw [he, if_pos rfl, if_pos rfl] at h; exact setGo_nokey key v r e h
theorem setGo_again_true (key : ByteArray) (v : Ob) (d : List Entr) : setGo key v true (setGo key v true d) = setGo key v true d :=
  setGo_true key v _ (setGo_nokey key v d)
theorem setGo_again_false (key : ByteArray) (v : Ob) : ∀ d : List Entr, setGo key v false (setGo key v false d) = setGo key v false d
  | [] => by
    rw [setGo, if_neg (by simp), setGo, keq_self, if_pos rfl, if_neg (by simp), setGo, if_pos rfl]
  | e :: r => by
    rw [setGo]
    cases he : keq e.1 key
    · rw [if_neg (by simp), setGo, he, if_neg (by simp), setGo_again_false key v r]
    · rw [if_pos rfl, if_neg (by simp), setGo, keq_self, if_pos rfl, if_neg (by simp), setGo_again_true]

theorem set_plain (o : Ob) (key : ByteArray) (v : Ob) (h : o.ents = false) : Cx.set o key v = o := by unfold Cx.set; rw [h]; rfl
theorem set_ents (o : Ob) (key : ByteArray) (v : Ob) : (Cx.set o key v).ents = o.ents := by
  unfold Cx.set
  split
  · rfl
  · rfl
theorem get_set (o : Ob) (key : ByteArray) (v : Ob) (h : o.ents = true) : Cx.get (Cx.set o key v) key = if v.k = 0 then nul else v := by
  unfold Cx.get
  rw [set_ents, h, if_pos rfl]
  unfold Cx.set
  rw [h, if_pos rfl]
  show getD (setD o.d key v) key = _
  unfold setD
  by_cases hv : v.k = 0
  · rw [if_pos hv, show (v.k == 0) = true by simpa using hv, getD_none _ _ (hasK_setGo_true key v o.d)]
  · rw [if_neg hv, show (v.k == 0) = false by simpa using hv, getD_setGo_false]
theorem get_other (o : Ob) (key other : ByteArray) (v : Ob) (h : key ≠ other) : Cx.get (Cx.set o key v) other = Cx.get o other := by
  unfold Cx.get
  rw [set_ents]
  cases hb : o.ents
  · rfl
  · rw [if_pos rfl, if_pos rfl]
    unfold Cx.set
    rw [hb, if_pos rfl]
    exact getD_setGo_other key other v (keq_no h) _ _
theorem set_again (o : Ob) (key : ByteArray) (v : Ob) : Cx.set (Cx.set o key v) key v = Cx.set o key v := by
  cases hb : o.ents
  · rw [set_plain o key v hb, set_plain o key v hb]
  · have h1 : Cx.set o key v = .mk o.k o.n o.f o.s o.l (setD o.d key v) := by unfold Cx.set; rw [hb]; rfl
    have h2 : (Cx.set o key v).ents = true := by rw [set_ents, hb]
    unfold Cx.set at h2 ⊢
    rw [h2, hb, if_pos rfl, if_pos rfl]
    simp only [Ob.k, Ob.n, Ob.f, Ob.s, Ob.l, Ob.d]
    congr 1
    unfold setD
    cases hv : (v.k == 0)
    · rw [setGo_again_false]
    · rw [setGo_again_true]
theorem setGo_len (key : ByteArray) (v : Ob) : ∀ (b : Bool) (d : List Entr), (setGo key v b d).length ≤ d.length + 1
  | b, [] => by rw [setGo]; split <;> simp
  | b, e :: r => by
    have h1 := setGo_len key v b r
    have h2 := setGo_len key v true r
    rw [setGo]
    split
    · split
      · rw [List.length_cons]; omega
      · rw [List.length_cons, List.length_cons]; omega
    · rw [List.length_cons, List.length_cons]; omega
theorem set_len (o : Ob) (key : ByteArray) (v : Ob) : (Cx.set o key v).d.length ≤ o.d.length + 1 := by
  unfold Cx.set
  split
  · exact setGo_len key v _ o.d
  · omega

end Go.Proofs.Ytdfgbdonnpbfcaa.Cx

namespace Go.Proofs.Ytdfgbdonnpbfcaa.Cx
set_option linter.unusedSimpArgs false
set_option linter.unusedVariables false

/-- The keys, each once. -/
def dk : List Entr → List Entr → List ByteArray
  | _, [] => []
  | seen, e :: r => if hasK seen e.1 then dk (seen ++ [e]) r else e.1 :: dk (seen ++ [e]) r
theorem dk_len : ∀ (d seen : List Entr), (dk seen d).length = nkGo seen d
  | [], seen => by rw [dk, nkGo]; rfl
  | e :: r, seen => by
    rw [dk, nkGo_cons]
    split
    · rw [dk_len r]; omega
    · rw [List.length_cons, dk_len r]; omega
theorem hasK_one (e : Entr) (key : ByteArray) : hasK [e] key = keq e.1 key := by rw [hasK, hasK, Bool.or_false]
theorem dk_mem : ∀ (d seen : List Entr) (key : ByteArray), key ∈ dk seen d ↔ hasK d key = true ∧ hasK seen key = false
  | [], seen, key => by rw [dk, hasK]; simp
  | e :: r, seen, key => by
    have ih := dk_mem r (seen ++ [e]) key
    rw [hasK_append, hasK_one, Bool.or_eq_false_iff] at ih
    rw [dk, hasK, Bool.or_eq_true]
    cases hs : hasK seen e.1
    · rw [if_neg (by simp), List.mem_cons, ih]
      constructor
      · rintro (rfl | ⟨h1, h2, h3⟩)
        · exact ⟨.inl (keq_self _), hs⟩
        · exact ⟨.inr h1, h2⟩
      · rintro ⟨h1, h2⟩
        cases he : keq e.1 key
        · rw [he] at h1
          rcases h1 with h1 | h1
          · cases h1
          · exact .inr ⟨h1, h2, rfl⟩
        · exact .inl (keq_iff.1 he).symm
    · rw [if_pos rfl, ih]
      constructor
      · rintro ⟨h1, h2, h3⟩; exact ⟨.inr h1, h2⟩
      · rintro ⟨h1, h2⟩
        have hn : keq e.1 key = false := keq_no fun e' => by rw [e', h2] at hs; cases hs
        rw [hn] at h1
        rcases h1 with h1 | h1
        · cases h1
        · exact ⟨h1, h2, hn⟩
theorem dk_nodup : ∀ (d seen : List Entr), (dk seen d).Nodup
  | [], seen => by rw [dk]; exact List.nodup_nil
  | e :: r, seen => by
    rw [dk]
    split
    · exact dk_nodup r _
    · refine List.nodup_cons.2 ⟨fun h => ?_, dk_nodup r _⟩
      have := ((dk_mem r _ _).1 h).2
      rw [hasK_append, hasK_one, keq_self, Bool.or_true] at this; cases this
theorem sub_le {α : Type} : ∀ (a b : List α), a.Nodup → (∀ x ∈ a, x ∈ b) → a.length ≤ b.length
  | [], b, _, _ => Nat.zero_le _
  | x :: a, b, hn, hs => by
    obtain ⟨s, t, rfl⟩ := List.append_of_mem (hs x List.mem_cons_self)
    have hn' := List.nodup_cons.1 hn
    have := sub_le a (s ++ t) hn'.2 fun y hy => by
      have h1 := hs y (List.mem_cons_of_mem _ hy)
      rcases List.mem_append.1 h1 with h | h
      · exact List.mem_append.2 (.inl h)
      · rcases List.mem_cons.1 h with rfl | h
        · exact absurd hy hn'.1
        · exact List.mem_append.2 (.inr h)
    rw [List.length_append] at this
    rw [List.length_cons, List.length_append, List.length_cons]; omega
theorem sub_back {α : Type} : ∀ (a b : List α), a.Nodup → b.Nodup → (∀ x ∈ a, x ∈ b) → b.length ≤ a.length → ∀ x ∈ b, x ∈ a
  | [], b, _, _, _, hl, x, hx => by
    have : b = [] := List.eq_nil_of_length_eq_zero (by rw [List.length_nil] at hl; omega)
    rw [this] at hx; exact hx
  | x :: a, b, hn, hb, hs, hl, z, hz => by
    obtain ⟨s, t, rfl⟩ := List.append_of_mem (hs x List.mem_cons_self)
    have hn' := List.nodup_cons.1 hn
    have hb' : (s ++ t).Nodup := by
      have h1 := List.nodup_append.1 hb
      have h2 := List.nodup_cons.1 h1.2.1
      exact List.nodup_append.2 ⟨h1.1, h2.2, fun a ha b hb => h1.2.2 a ha b (List.mem_cons_of_mem _ hb)⟩
    have hs' : ∀ y ∈ a, y ∈ s ++ t := by
      intro y hy
      have h1 := hs y (List.mem_cons_of_mem _ hy)
      rcases List.mem_append.1 h1 with h | h
      · exact List.mem_append.2 (.inl h)
      · rcases List.mem_cons.1 h with rfl | h
        · exact absurd hy hn'.1
        · exact List.mem_append.2 (.inr h)
    have hl' : (s ++ t).length ≤ a.length := by
      rw [List.length_append]
      rw [List.length_cons, List.length_append, List.length_cons] at hl; omega
    have back := sub_back a (s ++ t) hn'.2 hb' hs' hl'
    rcases List.mem_append.1 hz with h | h
    · exact List.mem_cons_of_mem _ (back z (List.mem_append.2 (.inl h)))
    · rcases List.mem_cons.1 h with rfl | h
      · exact List.mem_cons_self
      · exact List.mem_cons_of_mem _ (back z (List.mem_append.2 (.inr h)))

theorem sameE_iff : ∀ (d seen b : List Entr), sameE seen d b = true ↔ ∀ key ∈ dk seen d, hasK b key = true ∧ (getD d key).same (getD b key) = true
  | [], seen, b => by rw [sameE, dk]; simp
  | e :: r, seen, b => by
    have ih := sameE_iff r (seen ++ [e]) b
    have hne : ∀ key ∈ dk (seen ++ [e]) r, getD (e :: r) key = getD r key := by
      intro key hk
      have := ((dk_mem r _ _).1 hk).2
      rw [hasK_append, hasK_one, Bool.or_eq_false_iff] at this
      rw [getD, this.2]; rfl
    rw [sameE_cons, Bool.and_eq_true, ih, dk]
    cases hs : hasK seen e.1
    · rw [Bool.false_or, Bool.and_eq_true, if_neg (by simp)]
      constructor
      · rintro ⟨⟨h1, h2⟩, h3⟩ key hk
        rcases List.mem_cons.1 hk with rfl | hk
        · rw [getD, keq_self]; exact ⟨h1, h2⟩
        · rw [hne key hk]; exact h3 key hk
      · intro h
        refine ⟨?_, fun key hk => ?_⟩
        · have := h e.1 List.mem_cons_self
          rw [getD, keq_self] at this; exact this
        · have := h key (List.mem_cons_of_mem _ hk)
          rw [hne key hk] at this; exact this
    · rw [Bool.true_or, if_pos rfl]
      constructor
      · rintro ⟨-, h⟩ key hk; rw [hne key hk]; exact h key hk
      · intro h
        exact ⟨rfl, fun key hk => by have := h key hk; rw [hne key hk] at this; exact this⟩

def SameD (d b : List Entr) : Prop := (∀ key, hasK d key = hasK b key) ∧ ∀ key, hasK d key = true → (getD d key).same (getD b key) = true
theorem mem0 (d : List Entr) (key : ByteArray) : key ∈ dk [] d ↔ hasK d key = true := by
  rw [dk_mem]; exact ⟨fun h => h.1, fun h => ⟨h, rfl⟩⟩
theorem sameD_iff (d b : List Entr) : (nkGo [] d == nkGo [] b && sameE [] d b) = true ↔ SameD d b := by
  rw [Bool.and_eq_true, beq_iff_eq, sameE_iff, ← dk_len, ← dk_len]
  constructor
  · rintro ⟨h1, h2⟩
    have hs : ∀ x ∈ dk [] d, x ∈ dk [] b := fun x hx => (mem0 b x).2 (h2 x hx).1
    have hb := sub_back _ _ (dk_nodup d []) (dk_nodup b []) hs (by omega)
    refine ⟨fun key => ?_, fun key hk => (h2 key ((mem0 d key).2 hk)).2⟩
    rw [Bool.eq_iff_iff, ← mem0, ← mem0]
    exact ⟨hs key, hb key⟩
  · rintro ⟨h1, h2⟩
    have hs : ∀ x ∈ dk [] d, x ∈ dk [] b := fun x hx => (mem0 b x).2 (by rw [← h1]; exact (mem0 d x).1 hx)
    have hb : ∀ x ∈ dk [] b, x ∈ dk [] d := fun x hx => (mem0 d x).2 (by rw [h1]; exact (mem0 b x).1 hx)
    have l1 := sub_le _ _ (dk_nodup d []) hs
    have l2 := sub_le _ _ (dk_nodup b []) hb
    refine ⟨by omega, fun key hk => ?_⟩
    have hk' := (mem0 d key).1 hk
    exact ⟨by rw [← h1]; exact hk', h2 key hk'⟩
theorem same_iff (a b : Ob) : a.same b = true ↔ a.k = b.k ∧ a.f = b.f ∧ a.s = b.s ∧ (a.n = b.n ∨ a.k = 2) ∧ sameL a.l b.l = true ∧ SameD a.d b.d := by
  rw [same_eq, ← sameD_iff]
  simp only [Bool.and_eq_true, Bool.or_eq_true, beq_iff_eq, keq_iff]
  constructor
  · rintro ⟨⟨⟨⟨⟨h1, h2⟩, h3⟩, h4⟩, h5⟩, h6⟩; exact ⟨h1, h2, h3, h4, h5, h6⟩
  · rintro ⟨h1, h2, h3, h4, h5, h6⟩; exact ⟨⟨⟨⟨⟨h1, h2⟩, h3⟩, h4⟩, h5⟩, h6⟩

theorem getD_mem : ∀ (d : List Entr) (key : ByteArray), hasK d key = true → ∃ e ∈ d, e.2 = getD d key
  | [], key, h => by rw [hasK] at h; cases h
  | e :: r, key, h => by
    rw [getD]
    cases he : keq e.1 key
    · rw [hasK, he, Bool.false_or] at h
      obtain ⟨x, hx, e'⟩ := getD_mem r key h
      exact ⟨x, List.mem_cons_of_mem _ hx, by rw [e']; rfl⟩
    · exact ⟨e, List.mem_cons_self, rfl⟩
theorem sameL_refl : ∀ l : List Ob, (∀ x ∈ l, x.same x = true) → sameL l l = true
  | [], _ => by rw [sameL]
  | x :: r, h => by rw [sameL, h x List.mem_cons_self, sameL_refl r fun y hy => h y (List.mem_cons_of_mem _ hy)]; rfl
theorem same_refl (N : Nat) : ∀ a : Ob, SizeOf.sizeOf a ≤ N → a.same a = true := by
  induction N with
  | zero => intro a h; cases a; simp at h
  | succ N ih =>
    intro a h
    refine (same_iff a a).2 ⟨rfl, rfl, rfl, .inl rfl, sameL_refl _ fun x hx => ih x (by have := sizeOf_l hx; omega), fun _ => rfl, fun key hk => ?_⟩
    obtain ⟨e, he, e'⟩ := getD_mem _ _ hk
    rw [← e']; exact ih _ (by have := sizeOf_d he; omega)
theorem same_self (a : Ob) : a.same a = true := same_refl _ a (Nat.le_refl _)
theorem sameL_comm : ∀ l q : List Ob, (∀ x ∈ l, ∀ y, x.same y = y.same x) → sameL l q = sameL q l
  | [], [], _ => rfl
  | x :: r, [], _ => by rw [sameL, sameL]
  | [], y :: q, _ => by rw [sameL, sameL]
  | x :: r, y :: q, h => by rw [sameL, sameL, h x List.mem_cons_self y, sameL_comm r q fun z hz => h z (List.mem_cons_of_mem _ hz)]
theorem same_turn (N : Nat) : ∀ a : Ob, SizeOf.sizeOf a ≤ N → ∀ b, a.same b = b.same a := by
  induction N with
  | zero => intro a h; cases a; simp at h
  | succ N ih =>
    intro a h b
    have hL : sameL a.l b.l = sameL b.l a.l := sameL_comm _ _ fun x hx y => ih x (by have := sizeOf_l hx; omega) y
    have hD : ∀ key, hasK a.d key = true → (getD a.d key).same (getD b.d key) = (getD b.d key).same (getD a.d key) := fun key hk => by
      obtain ⟨e, he, e'⟩ := getD_mem _ _ hk
      rw [← e']; exact ih _ (by have := sizeOf_d he; omega) _
    rw [Bool.eq_iff_iff, same_iff, same_iff, hL]
    constructor
    · rintro ⟨h1, h2, h3, h4, h5, h6, h7⟩
      exact ⟨h1.symm, h2.symm, h3.symm, h4.imp Eq.symm fun h => h1 ▸ h, h5, fun k => (h6 k).symm, fun k hk => by rw [← hD k (by rw [h6]; exact hk)]; exact h7 k (by rw [h6]; exact hk)⟩
    · rintro ⟨h1, h2, h3, h4, h5, h6, h7⟩
      exact ⟨h1.symm, h2.symm, h3.symm, h4.imp Eq.symm fun h => h1 ▸ h, h5, fun k => (h6 k).symm, fun k hk => by rw [hD k hk]; exact h7 k (by rw [h6]; exact hk)⟩
theorem same_comm (a b : Ob) : a.same b = b.same a := same_turn _ a (Nat.le_refl _) b

/-- An array of one object. -/
def inA (a : Ob) : Ob := .mk 5 0 0 ⟨#[]⟩ [a] []
theorem same_part (N : Nat) : ∀ a : Ob, SizeOf.sizeOf a ≤ N → a.same (inA a) = false := by
  induction N with
  | zero => intro a h; cases a; simp at h
  | succ N ih =>
    intro a h
    cases hb : a.same (inA a)
    · rfl
    · obtain ⟨h1, h2, h3, h4, h5, h6, h7⟩ := (same_iff a (inA a)).1 hb
      obtain ⟨k, n, f, s, l, d⟩ := a
      simp only [inA, Ob.k, Ob.n, Ob.f, Ob.s, Ob.l, Ob.d] at h1 h2 h3 h4 h5 h6 h7
      subst h1 h2 h3
      obtain rfl : n = 0 := by rcases h4 with h | h
                               · exact h
                               · cases h
      obtain rfl : d = [] := by
        cases d with
        | nil => rfl
        | cons e r =>
          have := h6 e.1
          rw [hasK, hasK, keq_self, Bool.true_or] at this; cases this
      match l, h5, h with
      | [], h5, _ => rw [sameL] at h5; cases h5
      | [x], h5, h =>
        rw [sameL, Bool.and_eq_true] at h5
        have := ih x (by simp only [Ob.mk.sizeOf_spec, List.cons.sizeOf_spec] at h; omega)
        rw [show inA x = .mk 5 0 0 ⟨#[]⟩ [x] [] from rfl] at this
        rw [this] at h5; cases h5.1
      | x :: y :: r, h5, _ => rw [sameL, sameL, Bool.and_false] at h5; cases h5
theorem same_in (a : Ob) : a.same (inA a) = false := same_part _ a (Nat.le_refl _)
theorem count_in (a : Ob) : (inA a).count = a.count + 1 := by
  unfold inA; rw [count_mk, countL_cons, countL]; simp; omega
/-- A dictionary of two entries. -/
def two (key other : ByteArray) (a b : Ob) : Ob := .mk 6 0 0 ⟨#[]⟩ [] [(key, a), (other, b)]
theorem count_two (key other : ByteArray) (a b : Ob) : (two key other a b).count = a.count + b.count + 1 := by
  unfold two; rw [count_mk, countD_cons, countD_cons, countD]; simp; omega
theorem same_two (key other : ByteArray) (h : key ≠ other) (a b : Ob) : (two key other a b).same (two other key b a) = true := by
  refine (same_iff _ _).2 ⟨rfl, rfl, rfl, .inl rfl, by simp [two, Ob.l, sameL], fun k => ?_, fun k hk => ?_⟩
  · simp only [two, Ob.d, hasK, Bool.or_false]; exact Bool.or_comm _ _
  · simp only [two, Ob.d, getD]
    by_cases h1 : keq key k = true
    · have h2 : keq other k = false := keq_no fun e => h ((keq_iff.1 h1).trans e.symm)
      rw [h1, h2]; exact same_self a
    · have h1' : keq key k = false := by simpa using h1
      by_cases h2 : keq other k = true
      · rw [h1', h2]; exact same_self b
      · exfalso
        simp only [two, Ob.d, hasK, h1', Bool.or_false, Bool.false_or] at hk
        exact h2 hk

end Go.Proofs.Ytdfgbdonnpbfcaa.Cx

namespace Go.Proofs.Ytdfgbdonnpbfcaa.Cx
open Lx
set_option linter.unusedSimpArgs false
set_option linter.unusedVariables false

def opn (d : Bool) : List UInt8 := if d then [60, 60, 47, 65, 32] else [91]
def cls (d : Bool) : List UInt8 := if d then [62, 62] else [93]
def nest (d : Bool) : Nat → List UInt8
  | 0 => [55]
  | j + 1 => opn d ++ (nest d j ++ cls d)
def nestO (d : Bool) : Nat → Ob
  | 0 => .mk 2 1 7000 ⟨#[]⟩ [] []
  | j + 1 => if d then .mk 6 0 0 ⟨#[]⟩ [] [(⟨#[65]⟩, nestO d j)] else .mk 5 0 0 ⟨#[]⟩ [nestO d j] []
theorem nest_len (d : Bool) : ∀ j, (nest d j).length = 1 + j * (if d then 7 else 2)
  | 0 => by cases d <;> rfl
  | j + 1 => by
    rw [nest, List.length_append, List.length_append, nest_len d j]
    cases d <;> simp [opn, cls] <;> omega
theorem nestO_k (d : Bool) : ∀ j, (nestO d j).k ≠ 0
  | 0 => by simp [nestO, Ob.k]
  | j + 1 => by cases d <;> simp [nestO, Ob.k]
theorem nestO_count (d : Bool) : ∀ j, (nestO d j).count = j + 1
  | 0 => by simp [nestO, count_mk]
  | j + 1 => by
    have := nestO_count d j
    cases d <;> simp [nestO, count_mk, countL_cons, countD_cons, countL, countD, this] <;> omega

theorem next_app (a r : List UInt8) : nextV (a ++ r) (a.length : Int) = if (nextV r 0).1 = 0 then (0, { (nextV r 0).2 with frm := (nextV r 0).2.frm + a.length, to := (nextV r 0).2.to + a.length }) else ((nextV r 0).1, zero) := by
  have hs : spaceV (a ++ r) (a.length : Int) = spc false r + a.length := by
    unfold spaceV
    have h0 : (min (max (a.length : Int) 0) ((a ++ r).length : Int)).toNat = a.length := by rw [List.length_append]; omega
    rw [h0, List.drop_left]; omega
  have ht := tok_shift a r (spc false r)
  have hc : (0 : Int) ≤ (a.length : Int) ∧ (a.length : Int) ≤ ((a ++ r).length : Int) := ⟨by omega, by rw [List.length_append]; omega⟩
  rw [next_zero]
  unfold nextV
  rw [if_pos hc, hs, ht]
  unfold addT
  by_cases h : (tokV r (spc false r)).1 = 0
  · simp [h]
  · simp [h]
theorem next_white (a r : List UInt8) : nextV (a ++ 32 :: r) (a.length : Int) = nextV (a ++ 32 :: r) ((a.length + 1 : Nat) : Int) := by
  have hs : spaceV (a ++ 32 :: r) (a.length : Int) = spaceV (a ++ 32 :: r) ((a.length + 1 : Nat) : Int) := by
    unfold spaceV
    have h0 : (min (max (a.length : Int) 0) ((a ++ 32 :: r).length : Int)).toNat = a.length := by rw [List.length_append]; omega
    have h1 : (min (max ((a.length + 1 : Nat) : Int) 0) ((a ++ 32 :: r).length : Int)).toNat = a.length + 1 := by rw [List.length_append, List.length_cons]; omega
    rw [h0, h1, List.drop_left, ← List.drop_drop, List.drop_left, List.drop_succ_cons, List.drop_zero, spc, if_pos (show white 32 = true from rfl)]; omega
  have hc : (0 : Int) ≤ (a.length : Int) ∧ (a.length : Int) ≤ ((a ++ 32 :: r).length : Int) := ⟨by omega, by rw [List.length_append]; omega⟩
  have hc' : (0 : Int) ≤ ((a.length + 1 : Nat) : Int) ∧ ((a.length + 1 : Nat) : Int) ≤ ((a ++ 32 :: r).length : Int) := ⟨by omega, by rw [List.length_append, List.length_cons]; omega⟩
  unfold nextV
  rw [if_pos hc, if_pos hc', hs]

/-- A token, by its kind, number, text, wholeness, and the place behind. -/
def IsTok (l : List UInt8) (pos : Nat) (kind f : Int) (s : List UInt8) (wh : Bool) (to : Nat) : Prop :=
  (nextV l pos).1 = 0 ∧ (nextV l pos).2.kind = kind ∧ (nextV l pos).2.f = f ∧ (nextV l pos).2.s = s ∧ (nextV l pos).2.whole = wh ∧ (nextV l pos).2.to = to
theorem isTok_app (a r : List UInt8) {kind f : Int} {s : List UInt8} {wh : Bool} {frm to : Nat} (h : nextV r 0 = (0, ⟨kind, f, s, wh, frm, to⟩)) : IsTok (a ++ r) a.length kind f s wh (a.length + to) := by
  unfold IsTok
  rw [next_app, h]
  simp; omega

theorem next_end : nextV [] 0 = (0, ⟨0, 0, [], false, 0, 0⟩) := by rw [next_zero]; rfl
theorem next_arr (r : List UInt8) : nextV (91 :: r) 0 = (0, ⟨4, 0, [], false, 0, 1⟩) := by rw [next_zero]; rfl
theorem next_cls (r : List UInt8) : nextV (93 :: r) 0 = (0, ⟨5, 0, [], false, 0, 1⟩) := by rw [next_zero]; rfl
theorem next_dict (r : List UInt8) : nextV (60 :: 60 :: r) 0 = (0, ⟨6, 0, [], false, 0, 2⟩) := by rw [next_zero]; rfl
theorem next_fin (r : List UInt8) : nextV (62 :: 62 :: r) 0 = (0, ⟨7, 0, [], false, 0, 2⟩) := by rw [next_zero]; rfl
theorem next_name (r : List UInt8) : nextV (47 :: 65 :: 32 :: r) 0 = (0, ⟨2, 0, [65], false, 0, 2⟩) := by rw [next_zero]; rfl
theorem next_name1 : nextV [47] 0 = (0, ⟨2, 0, [], false, 0, 1⟩) := by rw [next_zero]; rfl
theorem next_name2 : nextV [47, 65] 0 = (0, ⟨2, 0, [65], false, 0, 2⟩) := by rw [next_zero]; rfl
theorem next_lt : nextV [60] 0 = (4, zero) := by rw [next_zero]; rfl
theorem next_gt : nextV [62] 0 = (3, zero) := by rw [next_zero]; rfl

/-- What may follow a number. -/
def Suf (r : List UInt8) : Prop := tw reg r = 0 ∧ wholeT (tokOf (nextV r 0)) = false
theorem suf_nil : Suf [] := ⟨rfl, by rw [next_end]; rfl⟩
theorem suf_cls (r : List UInt8) : Suf (93 :: r) := ⟨rfl, by rw [next_cls]; rfl⟩
theorem suf_fin (r : List UInt8) : Suf (62 :: 62 :: r) := ⟨rfl, by rw [next_fin]; rfl⟩
theorem suf_gt : Suf [62] := ⟨rfl, by rw [next_gt]; rfl⟩
theorem next_seven (r : List UInt8) (h : Suf r) : nextV (55 :: r) 0 = (0, ⟨1, 7000, [], true, 0, 1⟩) := by
  have h1 : tw reg (55 :: r) = 1 := by rw [tw, if_pos (show reg 55 = true from rfl), h.1]
  have hs : spc false (55 :: r) = 0 := rfl
  have ht : tokV (55 :: r) 0 = Lx.wordV (55 :: r) 0 := rfl
  have hw : Lx.wordV (55 :: r) 0 = (0, ⟨1, 7000, [], true, 0, 1⟩) := by
    unfold Lx.wordV
    rw [List.drop_zero, h1, List.take_succ_cons, List.take_zero]
    have e1 : Fx.parseE [55] = 0 := by kernel_rfl
    have e2 : Fx.parseV [55] = 7000 := by kernel_rfl
    have e3 : pointIn [55] = false := by kernel_rfl
    have e4 : numB ((55 :: r).headD 0) = true := rfl
    rw [e1, e2, e3, e4]; rfl
  rw [next_zero, hs, ht, hw]; rfl

/-- The object at a place is read; it fails; it is too deep. -/
def Reads (l : List UInt8) (dep pos : Nat) (x : Ob) (to F0 : Nat) : Prop :=
  (nextV l pos).1 = 0 ∧ (nextV l pos).2.kind ≠ 0 ∧ (nextV l pos).2.kind ≠ 5 ∧ (∀ F, F0 ≤ F → objOf F l dep (nextV l pos).2 = (0, x, to)) ∧ ∀ F, (objOf F l dep (nextV l pos).2).1 ≠ 0 ∨ objOf F l dep (nextV l pos).2 = (0, x, to)
def Fails (l : List UInt8) (dep pos : Nat) : Prop :=
  (nextV l pos).1 ≠ 0 ∨ ((nextV l pos).2.kind ≠ 5 ∧ ∀ F, (objOf F l dep (nextV l pos).2).1 ≠ 0)
def Deep (l : List UInt8) (dep pos : Nat) (F0 : Nat) : Prop :=
  (nextV l pos).1 = 0 ∧ (nextV l pos).2.kind ≠ 0 ∧ (nextV l pos).2.kind ≠ 5 ∧ ∀ F, F0 ≤ F → objOf F l dep (nextV l pos).2 = (5, nul, 0)

theorem obj_arr (F : Nat) (l : List UInt8) (dep : Nat) (t : Tok) (h : t.kind = 4) : objOf (F + 1) l dep t = if dep = 64 then (5, nul, 0) else if (upO F l (dep + 1) [] t.to).1 = 0 then (0, .mk 5 0 0 ⟨#[]⟩ (upO F l (dep + 1) [] t.to).2.1 [], (upO F l (dep + 1) [] t.to).2.2) else ((upO F l (dep + 1) [] t.to).1, nul, 0) := by
  rw [objOf]
  simp only [h, if_true, if_false, show ¬ ((4 : Int) = 0) by decide, show ¬ ((4 : Int) = 1) by decide, show ¬ ((4 : Int) = 2) by decide, show ¬ ((4 : Int) = 3) by decide, show ¬ ((4 : Int) = 8) by decide]
theorem obj_dict (F : Nat) (l : List UInt8) (dep : Nat) (t : Tok) (h : t.kind = 6) : objOf (F + 1) l dep t = if dep = 64 then (5, nul, 0) else if (upE F l (dep + 1) [] t.to).1 = 0 then (0, .mk 6 0 0 ⟨#[]⟩ [] (settle (upE F l (dep + 1) [] t.to).2.1), (upE F l (dep + 1) [] t.to).2.2) else ((upE F l (dep + 1) [] t.to).1, nul, 0) := by
  rw [objOf]
  simp only [h, if_true, if_false, show ¬ ((6 : Int) = 0) by decide, show ¬ ((6 : Int) = 1) by decide, show ¬ ((6 : Int) = 2) by decide, show ¬ ((6 : Int) = 3) by decide, show ¬ ((6 : Int) = 8) by decide, show ¬ ((6 : Int) = 4) by decide]
theorem upO_end (F : Nat) {l : List UInt8} (dep : Nat) (acc : List Ob) {p p3 : Nat} {f : Int} {s : List UInt8} {wh : Bool} (h : IsTok l p 5 f s wh p3) : upO (F + 1) l dep acc p = (0, acc, p3) := by
  obtain ⟨c0, c1, -, -, -, c5⟩ := h
  rw [upO, if_neg (by rw [c0]; decide), if_pos c1, c5]
theorem upE_end (F : Nat) {l : List UInt8} (dep : Nat) (acc : List Entr) {p p3 : Nat} {f : Int} {s : List UInt8} {wh : Bool} (h : IsTok l p 7 f s wh p3) : upE (F + 1) l dep acc p = (0, acc, p3) := by
  obtain ⟨c0, c1, -, -, -, c5⟩ := h
  rw [upE, if_neg (by rw [c0]; decide), if_pos c1, c5]
theorem upO_one (F : Nat) {l : List UInt8} {dep p : Nat} (h0 : (nextV l p).1 = 0) (h1 : (nextV l p).2.kind ≠ 0) (h2 : (nextV l p).2.kind ≠ 5) : upO (F + 1) l dep [] p = if (objOf F l dep (nextV l p).2).1 = 0 then upO F l dep [(objOf F l dep (nextV l p).2).2.1] (objOf F l dep (nextV l p).2).2.2 else ((objOf F l dep (nextV l p).2).1, [], 0) := by
  rw [upO, if_neg (by rw [h0]; decide), if_neg h2, if_neg h1, if_neg (by simp), List.nil_append]
theorem ent_one (F : Nat) {l : List UInt8} {dep p p1 : Nat} {f : Int} {s : List UInt8} {wh : Bool} (h : IsTok l p 2 f s wh p1) : entOf (F + 1) l dep (nextV l p).2 = if (nextV l p1).1 ≠ 0 then ((nextV l p1).1, (⟨#[]⟩, nul), 0) else if (objOf F l dep (nextV l p1).2).1 = 0 then (0, (str s, (objOf F l dep (nextV l p1).2).2.1), (objOf F l dep (nextV l p1).2).2.2) else ((objOf F l dep (nextV l p1).2).1, (⟨#[]⟩, nul), 0) := by
  obtain ⟨c0, c1, -, c3, -, c5⟩ := h
  have hn : ¬ (nextV l p).2.kind ≠ 2 := by rw [c1]; decide
  rw [entOf, if_neg hn, c5, c3]
theorem upE_ent (F : Nat) {l : List UInt8} {dep p p1 : Nat} {f : Int} {s : List UInt8} {wh : Bool} (h : IsTok l p 2 f s wh p1) : upE (F + 1) l dep [] p = if (entOf F l dep (nextV l p).2).1 = 0 then upE F l dep [(entOf F l dep (nextV l p).2).2.1] (entOf F l dep (nextV l p).2).2.2 else ((entOf F l dep (nextV l p).2).1, [], 0) := by
  obtain ⟨c0, c1, -, c3, -, c5⟩ := h
  have h0 : ¬ (nextV l p).1 ≠ 0 := by rw [c0]; decide
  have h1 : ¬ (nextV l p).2.kind = 7 := by rw [c1]; decide
  have h2 : ¬ (nextV l p).2.kind = 0 := by rw [c1]; decide
  have h3 : ¬ ([] : List Entr).length = 1024 := by simp
  rw [upE, if_neg h0, if_neg h1, if_neg h2, if_neg h3, List.nil_append]
theorem upE_one (F : Nat) {l : List UInt8} {dep p p1 : Nat} {f : Int} {s : List UInt8} {wh : Bool} (h : IsTok l p 2 f s wh p1) : upE (F + 2) l dep [] p = if (nextV l p1).1 ≠ 0 then ((nextV l p1).1, [], 0) else if (objOf F l dep (nextV l p1).2).1 = 0 then upE (F + 1) l dep [(str s, (objOf F l dep (nextV l p1).2).2.1)] (objOf F l dep (nextV l p1).2).2.2 else ((objOf F l dep (nextV l p1).2).1, [], 0) := by
  rw [upE_ent _ h, ent_one _ h]
  by_cases h1 : (nextV l p1).1 ≠ 0
  · simp only [if_pos h1, if_neg h1]
  · by_cases h2 : (objOf F l dep (nextV l p1).2).1 = 0
    · simp only [if_neg h1, if_pos h2, if_true]
    · simp only [if_neg h1, if_neg h2]

theorem arr_reads {l : List UInt8} {dep pos p1 p2 p3 F0 : Nat} {x : Ob} {f f' : Int} {s s' : List UInt8} {wh wh' : Bool} (hd : dep < 64) (ht : IsTok l pos 4 f s wh p1) (hr : Reads l (dep + 1) p1 x p2 F0) (hc : IsTok l p2 5 f' s' wh' p3) :
    Reads l dep pos (.mk 5 0 0 ⟨#[]⟩ [x] []) p3 (F0 + 4) := by
  obtain ⟨t0, t1, -, -, -, t5⟩ := ht
  obtain ⟨r0, r1, r2, r3, r4⟩ := hr
  have hu : ∀ G, (objOf (G + 1) l (dep + 1) (nextV l p1).2) = (0, x, p2) → objOf (G + 3) l dep (nextV l pos).2 = (0, .mk 5 0 0 ⟨#[]⟩ [x] [], p3) := fun G h => by
    have e : upO (G + 2) l (dep + 1) [] p1 = (0, [x], p3) := by rw [upO_one _ r0 r1 r2, h, if_pos rfl]; exact upO_end G _ _ hc
    rw [obj_arr _ _ _ _ t1, if_neg (by omega), t5, e, if_pos rfl]
  refine ⟨t0, by rw [t1]; decide, by rw [t1]; decide, fun F hF => ?_, fun F => ?_⟩
  · obtain ⟨G, rfl⟩ : ∃ G, F = G + 3 := ⟨F - 3, by omega⟩
    exact hu G (r3 _ (by omega))
  · match F with
    | 0 => exact .inl (by rw [objOf]; decide)
    | 1 => exact .inl (by rw [obj_arr _ _ _ _ t1, if_neg (by omega), upO]; decide)
    | 2 =>
      refine .inl ?_
      have e : (upO 1 l (dep + 1) [] (nextV l pos).2.to).1 ≠ 0 := by
        rw [t5, upO_one 0 r0 r1 r2, objOf, if_neg (by decide)]; decide
      rw [obj_arr _ _ _ _ t1, if_neg (by omega), if_neg e]; exact e
    | G + 3 =>
      rcases r4 (G + 1) with h | h
      · refine .inl ?_
        have e : (upO (G + 2) l (dep + 1) [] (nextV l pos).2.to).1 ≠ 0 := by
          rw [t5, upO_one _ r0 r1 r2, if_neg h]; exact h
        rw [obj_arr _ _ _ _ t1, if_neg (by omega), if_neg e]; exact e
      · exact .inr (hu G h)
theorem arr_deep {l : List UInt8} {dep pos p1 F0 : Nat} {f : Int} {s : List UInt8} {wh : Bool} (ht : IsTok l pos 4 f s wh p1) (hr : dep ≠ 64 → Deep l (dep + 1) p1 F0) : Deep l dep pos (F0 + 4) := by
  obtain ⟨t0, t1, -, -, -, t5⟩ := ht
  refine ⟨t0, by rw [t1]; decide, by rw [t1]; decide, fun F hF => ?_⟩
  obtain ⟨G, rfl⟩ : ∃ G, F = G + 3 := ⟨F - 3, by omega⟩
  rw [obj_arr _ _ _ _ t1, t5]
  by_cases h : dep = 64
  · rw [if_pos h]
  · rw [if_neg h]
    obtain ⟨r0, r1, r2, r3⟩ := hr h
    have hu : upO (G + 2) l (dep + 1) [] p1 = (5, [], 0) := by
      rw [upO_one _ r0 r1 r2, r3 (G + 1) (by omega)]; rfl
    rw [hu]; rfl
theorem arr_fails {l : List UInt8} {dep pos p1 : Nat} {f : Int} {s : List UInt8} {wh : Bool} (ht : IsTok l pos 4 f s wh p1) (hr : ∀ F, (upO F l (dep + 1) [] p1).1 ≠ 0) : Fails l dep pos := by
  obtain ⟨t0, t1, -, -, -, t5⟩ := ht
  refine .inr ⟨by rw [t1]; decide, fun F => ?_⟩
  cases F with
  | zero => rw [objOf]; decide
  | succ F =>
    rw [obj_arr _ _ _ _ t1, t5]
    split
    · decide
    · rw [if_neg (hr F)]; exact hr F
theorem upO_fails {l : List UInt8} {dep p1 : Nat} {acc : List Ob} (h : Fails l dep p1) : ∀ F, (upO F l dep acc p1).1 ≠ 0 := by
  intro F
  cases F with
  | zero => rw [upO]; decide
  | succ F =>
    rw [upO]
    by_cases h0 : (nextV l p1).1 ≠ 0
    · rw [if_pos h0]; exact h0
    · rw [if_neg h0]
      rcases h with h | ⟨h1, h2⟩
      · exact absurd h h0
      · rw [if_neg h1]
        split
        · decide
        · split
          · decide
          · rw [if_neg (h2 F)]; exact h2 F
/-- Behind an object nothing follows that ends a row. -/
def Ends (l : List UInt8) (p : Nat) : Prop := (nextV l p).1 ≠ 0 ∨ (nextV l p).2.kind = 0
theorem upO_short {l : List UInt8} {dep p1 p2 : Nat} {x : Ob} {F0 : Nat} (h : Reads l dep p1 x p2 F0) (he : Ends l p2) : ∀ F, (upO F l dep [] p1).1 ≠ 0 := by
  intro F
  obtain ⟨r0, r1, r2, -, hn⟩ := h
  cases F with
  | zero => rw [upO]; decide
  | succ F =>
    rw [upO_one _ r0 r1 r2]
    rcases hn F with h | h
    · rw [if_neg h]; exact h
    · rw [h, if_pos rfl]
      cases F with
      | zero => rw [upO]; decide
      | succ F =>
        rw [upO]
        rcases he with he | he
        · rw [if_pos he]; exact he
        · by_cases h0 : (nextV l p2).1 ≠ 0
          · rw [if_pos h0]; exact h0
          · rw [if_neg h0, if_neg (by rw [he]; decide), if_pos he]; decide

theorem settle_one (key : ByteArray) (x : Ob) (h : x.k ≠ 0) : settle [(key, x)] = [(key, x)] := by
  show setD [] key x = _
  unfold setD
  rw [show (x.k == 0) = false by simpa using h, setGo]; rfl
theorem dict_reads {l : List UInt8} {dep pos p0 p1 p2 p3 F0 : Nat} {x : Ob} {f f' f'' : Int} {s s' s'' : List UInt8} {wh wh' wh'' : Bool} (hd : dep < 64) (hx : x.k ≠ 0) (ht : IsTok l pos 6 f s wh p0) (hn : IsTok l p0 2 f'' s'' wh'' p1) (hr : Reads l (dep + 1) p1 x p2 F0) (hc : IsTok l p2 7 f' s' wh' p3) :
    Reads l dep pos (.mk 6 0 0 ⟨#[]⟩ [] [(str s'', x)]) p3 (F0 + 4) := by
  obtain ⟨t0, t1, -, -, -, t5⟩ := ht
  obtain ⟨r0, r1, r2, r3, r4⟩ := hr
  have hu : ∀ G, (objOf G l (dep + 1) (nextV l p1).2) = (0, x, p2) → objOf (G + 3) l dep (nextV l pos).2 = (0, .mk 6 0 0 ⟨#[]⟩ [] [(str s'', x)], p3) := fun G h => by
    have e : upE (G + 2) l (dep + 1) [] p0 = (0, [(str s'', x)], p3) := by rw [upE_one _ hn, if_neg (by rw [r0]; decide), h, if_pos rfl]; exact upE_end G _ _ hc
    rw [obj_dict _ _ _ _ t1, if_neg (by omega), t5, e, if_pos rfl, settle_one _ _ hx]
  refine ⟨t0, by rw [t1]; decide, by rw [t1]; decide, fun F hF => ?_, fun F => ?_⟩
  · obtain ⟨G, rfl⟩ : ∃ G, F = G + 3 := ⟨F - 3, by omega⟩
    exact hu G (r3 _ (by omega))
  · match F with
    | 0 => exact .inl (by rw [objOf]; decide)
    | 1 => exact .inl (by rw [obj_dict _ _ _ _ t1, if_neg (by omega), upE]; decide)
    | 2 =>
      refine .inl ?_
      have e : (upE 1 l (dep + 1) [] (nextV l pos).2.to).1 ≠ 0 := by
        rw [t5, upE_ent 0 hn, entOf, if_neg (by decide)]; decide
      rw [obj_dict _ _ _ _ t1, if_neg (by omega), if_neg e]; exact e
    | G + 3 =>
      rcases r4 G with h | h
      · refine .inl ?_
        have e : (upE (G + 2) l (dep + 1) [] (nextV l pos).2.to).1 ≠ 0 := by
          rw [t5, upE_one _ hn, if_neg (by rw [r0]; decide), if_neg h]; exact h
        rw [obj_dict _ _ _ _ t1, if_neg (by omega), if_neg e]; exact e
      · exact .inr (hu G h)
theorem dict_deep {l : List UInt8} {dep pos p0 p1 F0 : Nat} {f f'' : Int} {s s'' : List UInt8} {wh wh'' : Bool} (ht : IsTok l pos 6 f s wh p0) (hn : IsTok l p0 2 f'' s'' wh'' p1) (hr : dep ≠ 64 → Deep l (dep + 1) p1 F0) : Deep l dep pos (F0 + 4) := by
  obtain ⟨t0, t1, -, -, -, t5⟩ := ht
  refine ⟨t0, by rw [t1]; decide, by rw [t1]; decide, fun F hF => ?_⟩
  obtain ⟨G, rfl⟩ : ∃ G, F = G + 3 := ⟨F - 3, by omega⟩
  rw [obj_dict _ _ _ _ t1, t5]
  by_cases h : dep = 64
  · rw [if_pos h]
  · rw [if_neg h]
    obtain ⟨r0, r1, r2, r3⟩ := hr h
    have hu : upE (G + 2) l (dep + 1) [] p0 = (5, [], 0) := by
      rw [upE_one _ hn, if_neg (by rw [r0]; decide), r3 G (by omega)]; rfl
    rw [hu]; rfl
theorem dict_fails {l : List UInt8} {dep pos p1 : Nat} {f : Int} {s : List UInt8} {wh : Bool} (ht : IsTok l pos 6 f s wh p1) (hr : ∀ F, (upE F l (dep + 1) [] p1).1 ≠ 0) : Fails l dep pos := by
  obtain ⟨t0, t1, -, -, -, t5⟩ := ht
  refine .inr ⟨by rw [t1]; decide, fun F => ?_⟩
  cases F with
  | zero => rw [objOf]; decide
  | succ F =>
    rw [obj_dict _ _ _ _ t1, t5]
    split
    · decide
    · rw [if_neg (hr F)]; exact hr F
theorem upE_ends {l : List UInt8} {dep p1 : Nat} {acc : List Entr} (h : Ends l p1) : ∀ F, (upE F l dep acc p1).1 ≠ 0 := by
  intro F
  cases F with
  | zero => rw [upE]; decide
  | succ F =>
    rw [upE]
    rcases h with he | he
    · rw [if_pos he]; exact he
    · by_cases h0 : (nextV l p1).1 ≠ 0
      · rw [if_pos h0]; exact h0
      · rw [if_neg h0, if_neg (by rw [he]; decide), if_pos he]; decide
theorem upE_fails {l : List UInt8} {dep p0 p1 : Nat} {f : Int} {s : List UInt8} {wh : Bool} (hn : IsTok l p0 2 f s wh p1) (h : Fails l dep p1) : ∀ F, (upE F l dep [] p0).1 ≠ 0 := by
  intro F
  match F with
  | 0 => rw [upE]; decide
  | 1 =>
    rw [upE_ent 0 hn, entOf, if_neg (by decide)]; decide
  | F + 2 =>
    rw [upE_one _ hn]
    by_cases h0 : (nextV l p1).1 ≠ 0
    · rw [if_pos h0]; exact h0
    · rw [if_neg h0]
      rcases h with h | ⟨h1, h2⟩
      · exact absurd h h0
      · rw [if_neg (h2 F)]; exact h2 F
theorem upE_short {l : List UInt8} {dep p0 p1 p2 : Nat} {x : Ob} {F0 : Nat} {f : Int} {s : List UInt8} {wh : Bool} (hn : IsTok l p0 2 f s wh p1) (h : Reads l dep p1 x p2 F0) (he : Ends l p2) : ∀ F, (upE F l dep [] p0).1 ≠ 0 := by
  intro F
  obtain ⟨r0, r1, r2, -, hn'⟩ := h
  match F with
  | 0 => rw [upE]; decide
  | 1 =>
    rw [upE_ent 0 hn, entOf, if_neg (by decide)]; decide
  | F + 2 =>
    rw [upE_one _ hn, if_neg (by rw [r0]; decide)]
    rcases hn' F with h | h
    · rw [if_neg h]; exact h
    · rw [h, if_pos rfl]; exact upE_ends he _

theorem ends_nil (a : List UInt8) : Ends (a ++ []) a.length := .inr (by have := isTok_app a [] next_end; exact this.2.1)
theorem fails_nil (a : List UInt8) (dep : Nat) : Fails (a ++ []) dep a.length := by
  have h := isTok_app a [] next_end
  refine .inr ⟨by rw [h.2.1]; decide, fun F => ?_⟩
  cases F with
  | zero => rw [objOf]; decide
  | succ F => rw [objOf, if_pos h.2.1]; decide
theorem err_app (a r : List UInt8) (e : Int) (h : nextV r 0 = (e, zero)) (he : e ≠ 0) : (nextV (a ++ r) a.length).1 ≠ 0 := by
  rw [next_app, h]; simp only []; rw [if_neg he]; exact he
theorem next_to {l : List UInt8} {p q : Nat} (h : nextV l p = nextV l q) {dep to F0 : Nat} {x : Ob} : (Reads l dep q x to F0 → Reads l dep p x to F0) ∧ (Fails l dep q → Fails l dep p) ∧ (Deep l dep q F0 → Deep l dep p F0) := by
  unfold Reads Fails Deep; rw [h]; exact ⟨id, id, id⟩

theorem nest_reads (d : Bool) : ∀ (j : Nat) (pre suf : List UInt8) (dep : Nat), dep + j ≤ 64 → Suf suf → Reads (pre ++ (nest d j ++ suf)) dep pre.length (nestO d j) (pre.length + (nest d j).length) (4 * j + 1)
  | 0, pre, suf, dep, _, hs => by
    have h := isTok_app pre (55 :: suf) (next_seven suf hs)
    have hF : ∀ F, objOf (F + 1) (pre ++ (55 :: suf)) dep (nextV (pre ++ (55 :: suf)) pre.length).2 = (0, nestO d 0, pre.length + 1) := fun F => by
      obtain ⟨h0, h1, h2, h3, h4, h5⟩ := h
      have hn : wholeT (tokOf (nextV (pre ++ (55 :: suf)) ((pre.length + 1 : Nat) : Int))) = false := by
        have h6 : nextV (pre ++ (55 :: suf)) ((pre.length + 1 : Nat) : Int) = nextV ((pre ++ [55]) ++ suf) ((pre ++ [55]).length : Int) := by simp
        have h7 := hs.2
        rw [h6, next_app]
        unfold tokOf at h7 ⊢
        by_cases hz : (nextV suf 0).1 = 0
        · rw [if_pos hz] at h7
          rw [if_pos hz]; exact h7
        · rw [if_neg hz] at h7
          rw [if_neg hz]
          simp only []
          rw [if_neg hz]; exact h7
      have hnum : numberV (pre ++ (55 :: suf)) (nextV (pre ++ (55 :: suf)) pre.length).2 = (nestO d 0, pre.length + 1) := by
        unfold numberV
        rw [h5, hn]
        simp only [Bool.false_eq_true, if_false, ite_self]
        unfold numV
        rw [h4, h2]; rfl
      rw [objOf, if_neg (by rw [h1]; decide), if_pos h1, hnum]
    refine ⟨h.1, by rw [show pre ++ (nest d 0 ++ suf) = pre ++ (55 :: suf) from rfl, h.2.1]; decide, by rw [show pre ++ (nest d 0 ++ suf) = pre ++ (55 :: suf) from rfl, h.2.1]; decide, fun F hF' => ?_, fun F => ?_⟩
    · obtain ⟨G, rfl⟩ : ∃ G, F = G + 1 := ⟨F - 1, by omega⟩
      exact hF G
    · cases F with
      | zero => exact .inl (by rw [objOf]; decide)
      | succ F => exact .inr (hF F)
  | j + 1, pre, suf, dep, hd, hs => by
    cases d with
    | false =>
      have e0 : pre ++ (nest false (j + 1) ++ suf) = pre ++ (91 :: (nest false j ++ (93 :: suf))) := by simp [nest, opn, cls]
      have e1 : pre ++ (91 :: (nest false j ++ (93 :: suf))) = (pre ++ [91]) ++ (nest false j ++ (93 :: suf)) := by simp
      have e2 : (pre ++ [91]) ++ (nest false j ++ (93 :: suf)) = (pre ++ [91] ++ nest false j) ++ (93 :: suf) := by simp
      have h1 := isTok_app pre (91 :: (nest false j ++ (93 :: suf))) (next_arr _)
      have h2 := nest_reads false j (pre ++ [91]) (93 :: suf) (dep + 1) (by omega) (suf_cls suf)
      have h3 := isTok_app (pre ++ [91] ++ nest false j) (93 :: suf) (next_cls suf)
      rw [← e2, ← e1, ← e0] at h3
      rw [← e1, ← e0] at h2
      rw [← e0] at h1
      simp only [List.length_append, List.length_cons, List.length_nil, Nat.zero_add] at h1 h2 h3
      have hd' : dep < 64 := by omega
      have := arr_reads hd' h1 h2 h3
      rw [show pre.length + (nest false (j + 1)).length = pre.length + 1 + (nest false j).length + 1 by rw [nest_len, nest_len]; simp; omega]
      exact this
    | true =>
      have e0 : pre ++ (nest true (j + 1) ++ suf) = pre ++ (60 :: 60 :: (47 :: 65 :: 32 :: (nest true j ++ (62 :: 62 :: suf)))) := by simp [nest, opn, cls]
      have e1 : pre ++ (60 :: 60 :: (47 :: 65 :: 32 :: (nest true j ++ (62 :: 62 :: suf)))) = (pre ++ [60, 60]) ++ (47 :: 65 :: 32 :: (nest true j ++ (62 :: 62 :: suf))) := by simp
      have e2 : (pre ++ [60, 60]) ++ (47 :: 65 :: 32 :: (nest true j ++ (62 :: 62 :: suf))) = (pre ++ [60, 60, 47, 65]) ++ (32 :: (nest true j ++ (62 :: 62 :: suf))) := by simp
      have e3 : (pre ++ [60, 60, 47, 65]) ++ (32 :: (nest true j ++ (62 :: 62 :: suf))) = (pre ++ [60, 60, 47, 65, 32]) ++ (nest true j ++ (62 :: 62 :: suf)) := by simp
      have e4 : (pre ++ [60, 60, 47, 65, 32]) ++ (nest true j ++ (62 :: 62 :: suf)) = (pre ++ [60, 60, 47, 65, 32] ++ nest true j) ++ (62 :: 62 :: suf) := by simp
      have h1 := isTok_app pre (60 :: 60 :: (47 :: 65 :: 32 :: (nest true j ++ (62 :: 62 :: suf)))) (next_dict _)
      have h2 := isTok_app (pre ++ [60, 60]) (47 :: 65 :: 32 :: (nest true j ++ (62 :: 62 :: suf))) (next_name _)
      have h3 := next_white (pre ++ [60, 60, 47, 65]) (nest true j ++ (62 :: 62 :: suf))
      have h4 := nest_reads true j (pre ++ [60, 60, 47, 65, 32]) (62 :: 62 :: suf) (dep + 1) (by omega) (suf_fin suf)
      have h5 := isTok_app (pre ++ [60, 60, 47, 65, 32] ++ nest true j) (62 :: 62 :: suf) (next_fin suf)
      rw [← e4, ← e3, ← e2, ← e1, ← e0] at h5
      rw [← e3, ← e2, ← e1, ← e0] at h4
      rw [← e2, ← e1, ← e0] at h3
      rw [← e1, ← e0] at h2
      rw [← e0] at h1
      simp only [List.length_append, List.length_cons, List.length_nil, Nat.zero_add, Nat.reduceAdd] at h1 h2 h3 h4 h5
      have hd' : dep < 64 := by omega
      have := dict_reads hd' (nestO_k true j) h1 h2 ((next_to h3).1 h4) h5
      rw [show pre.length + (nest true (j + 1)).length = pre.length + 5 + (nest true j).length + 2 by rw [nest_len, nest_len]; simp; omega]
      exact this

theorem nest_deep (d : Bool) : ∀ (j : Nat) (pre suf : List UInt8) (dep : Nat), dep ≤ 64 → 64 < dep + j → Deep (pre ++ (nest d j ++ suf)) dep pre.length (4 * j + 1)
  | 0, pre, suf, dep, h1, h2 => absurd h2 (by omega)
  | j + 1, pre, suf, dep, h1, h2 => by
    cases d with
    | false =>
      have e0 : pre ++ (nest false (j + 1) ++ suf) = pre ++ (91 :: (nest false j ++ (93 :: suf))) := by simp [nest, opn, cls]
      have e1 : pre ++ (91 :: (nest false j ++ (93 :: suf))) = (pre ++ [91]) ++ (nest false j ++ (93 :: suf)) := by simp
      have t1 := isTok_app pre (91 :: (nest false j ++ (93 :: suf))) (next_arr _)
      rw [← e0] at t1
      have := arr_deep (dep := dep) t1 (F0 := 4 * j + 1) (fun hne => by
        have := nest_deep false j (pre ++ [91]) (93 :: suf) (dep + 1) (by omega) (by omega)
        rw [← e1, ← e0, List.length_append] at this; exact this)
      exact this
    | true =>
      have e0 : pre ++ (nest true (j + 1) ++ suf) = pre ++ (60 :: 60 :: (47 :: 65 :: 32 :: (nest true j ++ (62 :: 62 :: suf)))) := by simp [nest, opn, cls]
      have e1 : pre ++ (60 :: 60 :: (47 :: 65 :: 32 :: (nest true j ++ (62 :: 62 :: suf)))) = (pre ++ [60, 60]) ++ (47 :: 65 :: 32 :: (nest true j ++ (62 :: 62 :: suf))) := by simp
      have e2 : (pre ++ [60, 60]) ++ (47 :: 65 :: 32 :: (nest true j ++ (62 :: 62 :: suf))) = (pre ++ [60, 60, 47, 65]) ++ (32 :: (nest true j ++ (62 :: 62 :: suf))) := by simp
      have e3 : (pre ++ [60, 60, 47, 65]) ++ (32 :: (nest true j ++ (62 :: 62 :: suf))) = (pre ++ [60, 60, 47, 65, 32]) ++ (nest true j ++ (62 :: 62 :: suf)) := by simp
      have t1 := isTok_app pre (60 :: 60 :: (47 :: 65 :: 32 :: (nest true j ++ (62 :: 62 :: suf)))) (next_dict _)
      have t2 := isTok_app (pre ++ [60, 60]) (47 :: 65 :: 32 :: (nest true j ++ (62 :: 62 :: suf))) (next_name _)
      have t3 := next_white (pre ++ [60, 60, 47, 65]) (nest true j ++ (62 :: 62 :: suf))
      rw [← e2, ← e1, ← e0] at t3
      rw [← e1, ← e0] at t2
      rw [← e0] at t1
      simp only [List.length_append, List.length_cons, List.length_nil, Nat.zero_add, Nat.reduceAdd] at t1 t2 t3
      have := dict_deep (dep := dep) t1 t2 (F0 := 4 * j + 1) (fun hne => by
        have h4 := nest_deep true j (pre ++ [60, 60, 47, 65, 32]) (62 :: 62 :: suf) (dep + 1) (by omega) (by omega)
        rw [← e3, ← e2, ← e1, ← e0] at h4
        simp only [List.length_append, List.length_cons, List.length_nil, Nat.zero_add, Nat.reduceAdd] at h4
        exact (next_to (to := 0) (x := nul) t3).2.2 h4)
      exact this

theorem ends_gt (a : List UInt8) : Ends (a ++ [62]) a.length := .inl (err_app a [62] 3 next_gt (by decide))
theorem nest_cut (d : Bool) : ∀ (j : Nat) (pre : List UInt8) (dep c : Nat), dep + j ≤ 64 → c < (nest d j).length → Fails (pre ++ (nest d j).take c) dep pre.length
  | 0, pre, dep, c, _, hc => by
    obtain rfl : c = 0 := by simpa [nest] using hc
    exact fails_nil pre dep
  | j + 1, pre, dep, 0, _, _ => fails_nil pre dep
  | j + 1, pre, dep, c + 1, hd, hc => by
    cases d with
    | false =>
      have hl : (nest false (j + 1)).length = (nest false j).length + 2 := by rw [nest_len, nest_len]; simp; omega
      have e0 : (nest false (j + 1)).take (c + 1) = 91 :: (nest false j ++ [93]).take c := by simp [nest, opn, cls]
      have t1 := isTok_app pre (91 :: (nest false j ++ [93]).take c) (next_arr _)
      have e1 : pre ++ (91 :: (nest false j ++ [93]).take c) = (pre ++ [91]) ++ (nest false j ++ [93]).take c := by simp
      rw [e0]
      refine arr_fails t1 ?_
      rw [e1]
      by_cases h : c < (nest false j).length
      · have ih := nest_cut false j (pre ++ [91]) (dep + 1) c (by omega) h
        rw [List.take_append_of_le_length (by omega)]
        rw [List.length_append] at ih
        exact upO_fails ih
      · obtain rfl : c = (nest false j).length := by omega
        rw [List.take_left]
        have hr := nest_reads false j (pre ++ [91]) [] (dep + 1) (by omega) suf_nil
        have he := ends_nil (pre ++ [91] ++ nest false j)
        rw [List.append_nil] at hr he
        rw [List.length_append, List.length_append] at he
        rw [List.length_append] at hr
        exact upO_short hr he
    | true =>
      have hl : (nest true (j + 1)).length = (nest true j).length + 7 := by rw [nest_len, nest_len]; simp; omega
      match c, hc with
      | 0, _ => exact .inl (err_app pre [60] 4 next_lt (by decide))
      | 1, _ =>
        have t1 := isTok_app pre [60, 60] (next_dict _)
        have he := ends_nil (pre ++ [60, 60])
        rw [List.append_nil, List.length_append] at he
        exact dict_fails t1 (upE_ends he)
      | 2, _ =>
        have t1 := isTok_app pre [60, 60, 47] (next_dict _)
        have t2 := isTok_app (pre ++ [60, 60]) [47] next_name1
        have hf := fails_nil (pre ++ [60, 60, 47]) (dep + 1)
        rw [show pre ++ [60, 60] ++ [47] = pre ++ [60, 60, 47] by simp] at t2
        rw [List.append_nil] at hf
        simp only [List.length_append, List.length_cons, List.length_nil, Nat.zero_add, Nat.reduceAdd] at t1 t2 hf
        exact dict_fails t1 (upE_fails t2 hf)
      | 3, _ =>
        have t1 := isTok_app pre [60, 60, 47, 65] (next_dict _)
        have t2 := isTok_app (pre ++ [60, 60]) [47, 65] next_name2
        have hf := fails_nil (pre ++ [60, 60, 47, 65]) (dep + 1)
        rw [show pre ++ [60, 60] ++ [47, 65] = pre ++ [60, 60, 47, 65] by simp] at t2
        rw [List.append_nil] at hf
        simp only [List.length_append, List.length_cons, List.length_nil, Nat.zero_add, Nat.reduceAdd] at t1 t2 hf
        exact dict_fails t1 (upE_fails t2 hf)
      | c + 4, hc =>
        have e0 : pre ++ (nest true (j + 1)).take (c + 4 + 1) = pre ++ (60 :: 60 :: (47 :: 65 :: 32 :: (nest true j ++ [62, 62]).take c)) := by simp [nest, opn, cls]
        obtain ⟨X, hX⟩ : ∃ X, X = (nest true j ++ [62, 62]).take c := ⟨_, rfl⟩
        rw [← hX] at e0
        have e1 : pre ++ (60 :: 60 :: (47 :: 65 :: 32 :: X)) = (pre ++ [60, 60]) ++ (47 :: 65 :: 32 :: X) := by simp
        have e2 : (pre ++ [60, 60]) ++ (47 :: 65 :: 32 :: X) = (pre ++ [60, 60, 47, 65]) ++ (32 :: X) := by simp
        have e3 : (pre ++ [60, 60, 47, 65]) ++ (32 :: X) = (pre ++ [60, 60, 47, 65, 32]) ++ X := by simp
        have t1 := isTok_app pre (60 :: 60 :: (47 :: 65 :: 32 :: X)) (next_dict _)
        have t2 := isTok_app (pre ++ [60, 60]) (47 :: 65 :: 32 :: X) (next_name _)
        have t3 := next_white (pre ++ [60, 60, 47, 65]) X
        rw [← e2, ← e1] at t3
        rw [← e1] at t2
        rw [e0]
        simp only [List.length_append, List.length_cons, List.length_nil, Nat.zero_add, Nat.reduceAdd] at t1 t2 t3
        refine dict_fails t1 ?_
        by_cases h : c < (nest true j).length
        · have ih := nest_cut true j (pre ++ [60, 60, 47, 65, 32]) (dep + 1) c (by omega) h
          have hX' : X = (nest true j).take c := by rw [hX, List.take_append_of_le_length (by omega)]
          rw [← hX', ← e3, ← e2, ← e1] at ih
          simp only [List.length_append, List.length_cons, List.length_nil, Nat.zero_add, Nat.reduceAdd] at ih
          exact upE_fails t2 ((next_to (to := 0) (x := nul) (F0 := 0) t3).2.1 ih)
        · have hX' : X = nest true j ++ [62, 62].take (c - (nest true j).length) := by
            rw [hX, List.take_append, List.take_of_length_le (by omega)]
          have hc' : c - (nest true j).length = 0 ∨ c - (nest true j).length = 1 := by omega
          have hr : ∀ suf, X = nest true j ++ suf → Suf suf → Reads (pre ++ (60 :: 60 :: (47 :: 65 :: 32 :: X))) (dep + 1) (pre.length + 2 + 2) (nestO true j) (pre.length + 5 + (nest true j).length) (4 * j + 1) := fun suf hs hsuf => by
            have hr := nest_reads true j (pre ++ [60, 60, 47, 65, 32]) suf (dep + 1) (by omega) hsuf
            rw [← hs, ← e3, ← e2, ← e1] at hr
            simp only [List.length_append, List.length_cons, List.length_nil, Nat.zero_add, Nat.reduceAdd] at hr
            exact (next_to t3).1 hr
          have he : ∀ suf, X = nest true j ++ suf → Ends ((pre ++ [60, 60, 47, 65, 32] ++ nest true j) ++ suf) (pre ++ [60, 60, 47, 65, 32] ++ nest true j).length → Ends (pre ++ (60 :: 60 :: (47 :: 65 :: 32 :: X))) (pre.length + 5 + (nest true j).length) := fun suf hs h => by
            rw [List.append_assoc, ← hs, ← e3, ← e2, ← e1] at h
            simp only [List.length_append, List.length_cons, List.length_nil, Nat.zero_add, Nat.reduceAdd] at h
            exact h
          rcases hc' with h0 | h0
          · rw [h0] at hX'
            exact upE_short t2 (hr _ hX' suf_nil) (he _ hX' (ends_nil _))
          · rw [h0] at hX'
            exact upE_short t2 (hr _ hX' suf_gt) (he _ hX' (ends_gt _))

theorem obj_end (F : Nat) (l : List UInt8) (dep : Nat) (t : Tok) (h : t.kind = 0) : (objOf F l dep t).1 ≠ 0 := by
  cases F with
  | zero => rw [objOf]; decide
  | succ F => rw [objOf, if_pos h]; decide
/-- What Parse answers of a nest, of one that is too deep, and of one that is cut off. -/
theorem parse_nest (d : Bool) (k : Nat) (h : k ≤ 64) : Cx.parse (nest d k) 0 = (0, nestO d k, (nest d k).length) := by
  obtain ⟨h0, -, -, h3, -⟩ := nest_reads d k [] [] 0 (by omega) suf_nil
  simp only [List.nil_append, List.append_nil, List.length_nil, Nat.zero_add] at h0 h3
  unfold Cx.parse
  rw [if_neg (by rw [show ((0 : Int)) = ((0 : Nat) : Int) from rfl, h0]; decide)]
  exact h3 _ (by rw [nest_len]; split <;> omega)
theorem parse_deep (d : Bool) (k : Nat) (h : 64 < k) : Cx.parse (nest d k) 0 = (5, nul, 0) := by
  obtain ⟨h0, -, -, h3⟩ := nest_deep d k [] [] 0 (by omega) (by omega)
  simp only [List.nil_append, List.append_nil, List.length_nil, Nat.zero_add] at h0 h3
  unfold Cx.parse
  rw [if_neg (by rw [show ((0 : Int)) = ((0 : Nat) : Int) from rfl, h0]; decide)]
  exact h3 _ (by rw [nest_len]; split <;> omega)
theorem parse_cut (d : Bool) (k c : Nat) (h : k ≤ 64) (hc : c < (nest d k).length) : (Cx.parse ((nest d k).take c) 0).1 ≠ 0 := by
  have hf := nest_cut d k [] 0 c (by omega) hc
  simp only [List.nil_append, List.length_nil] at hf
  unfold Cx.parse
  by_cases h0 : (nextV ((nest d k).take c) 0).1 ≠ 0
  · rw [if_pos h0]; exact h0
  · rw [if_neg h0]
    rcases hf with hf | hf
    · exact absurd hf h0
    · exact hf.2 _

end Go.Proofs.Ytdfgbdonnpbfcaa.Cx
