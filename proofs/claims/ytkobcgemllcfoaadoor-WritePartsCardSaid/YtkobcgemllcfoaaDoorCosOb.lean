/-
  Objects as a tree, and what package cos answers over them. Nothing of the program is named here.
-/
import Derived.Test.YtkobcgemllcfoaaDoorLexMath
import Derived.Lib.Strings
namespace Go.Proofs.YtkobcgemllcfoaaDoor.Cx

inductive Ob where
  | mk (k n f : Int) (s : ByteArray) (l : List Ob) (d : List (ByteArray × Ob))

abbrev Entr := ByteArray × Ob
def Ob.k : Ob → Int | .mk k _ _ _ _ _ => k
def Ob.n : Ob → Int | .mk _ n _ _ _ _ => n
def Ob.f : Ob → Int | .mk _ _ f _ _ _ => f
def Ob.s : Ob → ByteArray | .mk _ _ _ s _ _ => s
def Ob.l : Ob → List Ob | .mk _ _ _ _ l _ => l
def Ob.d : Ob → List Entr | .mk _ _ _ _ _ d => d
theorem Ob.eta (o : Ob) : o = .mk o.k o.n o.f o.s o.l o.d := by cases o; rfl
def nul : Ob := .mk 0 0 0 ⟨#[]⟩ [] []
def Ob.ents (o : Ob) : Bool := o.k == 6 || o.k == 8

/-- Texts are held against each other as the program does. -/
def keq (a b : ByteArray) : Bool := a.toList == b.toList
theorem toList_inj {a b : ByteArray} (h : a.toList = b.toList) : a = b := by
  rw [Lib.toList_data, Lib.toList_data] at h
  have h1 := Array.toList_inj.1 h
  cases a; cases b; simp only at h1; rw [h1]
theorem keq_iff {a b : ByteArray} : keq a b = true ↔ a = b := by
  unfold keq; rw [beq_iff_eq]; exact ⟨toList_inj, fun h => by rw [h]⟩
theorem keq_self (a : ByteArray) : keq a a = true := keq_iff.2 rfl
theorem keq_comm (a b : ByteArray) : keq a b = keq b a := by
  rw [Bool.eq_iff_iff, keq_iff, keq_iff]; exact eq_comm
theorem keq_no {a b : ByteArray} (h : a ≠ b) : keq a b = false := by
  cases e : keq a b
  · rfl
  · exact absurd (keq_iff.1 e) h

/-- The first entry's object of a key. -/
def getD : List Entr → ByteArray → Ob
  | [], _ => nul
  | e :: r, key => if keq e.1 key then e.2 else getD r key
def hasK : List Entr → ByteArray → Bool
  | [], _ => false
  | e :: r, key => keq e.1 key || hasK r key
/-- Where the first entry of a key stands; the length, if there is none. -/
def idxK : List Entr → ByteArray → Nat
  | [], _ => 0
  | e :: r, key => if keq e.1 key then 0 else idxK r key + 1
def get (o : Ob) (key : ByteArray) : Ob := if o.ents then getD o.d key else nul

/-- Set's loop: is it set already? what is left. -/
def setGo (key : ByteArray) (v : Ob) : Bool → List Entr → List Entr
  | set, [] => if set then [] else [(key, v)]
  | set, e :: r => if keq e.1 key then (if set then setGo key v set r else (key, v) :: setGo key v true r) else e :: setGo key v set r
def setD (d : List Entr) (key : ByteArray) (v : Ob) : List Entr := setGo key v (v.k == 0) d
def set (o : Ob) (key : ByteArray) (v : Ob) : Ob := if o.ents then .mk o.k o.n o.f o.s o.l (setD o.d key v) else o

mutual
def Ob.count : Ob → Nat
  | .mk k _ _ _ l d => 1 + (if k = 5 then countL l else 0) + (if k = 6 ∨ k = 8 then countD d else 0)
def countL : List Ob → Nat
  | [] => 0
  | x :: r => x.count + countL r
def countD : List (ByteArray × Ob) → Nat
  | [] => 0
  | (_, x) :: r => x.count + countD r
end

theorem count_mk (k n f : Int) (s : ByteArray) (l : List Ob) (d : List Entr) : (Ob.mk k n f s l d).count = 1 + (if k = 5 then countL l else 0) + (if k = 6 ∨ k = 8 then countD d else 0) := by rw [Ob.count]
theorem countL_cons (x : Ob) (r : List Ob) : countL (x :: r) = x.count + countL r := by rw [countL]
theorem countD_cons (e : Entr) (r : List Entr) : countD (e :: r) = e.2.count + countD r := by cases e; rw [countD]
theorem countL_append : ∀ a b : List Ob, countL (a ++ b) = countL a + countL b
  | [], b => by rw [List.nil_append, countL, Nat.zero_add]
  | x :: a, b => by rw [List.cons_append, countL, countL, countL_append a b]; omega
theorem countD_append : ∀ a b : List Entr, countD (a ++ b) = countD a + countD b
  | [], b => by rw [List.nil_append, countD, Nat.zero_add]
  | x :: a, b => by rw [List.cons_append, countD_cons, countD_cons, countD_append a b]; omega
theorem countL_take_succ (l : List Ob) (i : Nat) (h : i < l.length) : countL (l.take (i + 1)) = countL (l.take i) + l[i].count := by
  rw [List.take_succ_eq_append_getElem h, countL_append, countL_cons, countL]; omega
theorem countD_take_succ (l : List Entr) (i : Nat) (h : i < l.length) : countD (l.take (i + 1)) = countD (l.take i) + l[i].2.count := by
  rw [List.take_succ_eq_append_getElem h, countD_append, countD_cons, countD]; omega
theorem countL_take_le (l : List Ob) (i : Nat) : countL (l.take i) ≤ countL l := by
  have := countL_append (l.take i) (l.drop i)
  rw [List.take_append_drop] at this; omega
theorem countD_take_le (l : List Entr) (i : Nat) : countD (l.take i) ≤ countD l := by
  have := countD_append (l.take i) (l.drop i)
  rw [List.take_append_drop] at this; omega
theorem countL_mem_le {l : List Ob} {x : Ob} (h : x ∈ l) : x.count ≤ countL l := by
  induction l with
  | nil => simp at h
  | cons y r ih =>
    rw [countL_cons]
    rcases List.mem_cons.1 h with rfl | h
    · omega
    · have := ih h; omega
theorem countD_mem_le {l : List Entr} {x : Entr} (h : x ∈ l) : x.2.count ≤ countD l := by
  induction l with
  | nil => simp at h
  | cons y r ih =>
    rw [countD_cons]
    rcases List.mem_cons.1 h with rfl | h
    · omega
    · have := ih h; omega

theorem sizeOf_l {o x : Ob} (h : x ∈ o.l) : SizeOf.sizeOf x < SizeOf.sizeOf o := by
  cases o
  have := List.sizeOf_lt_of_mem h
  simp only [Ob.l] at this
  simp only [Ob.mk.sizeOf_spec]; omega
theorem sizeOf_d {o : Ob} {e : Entr} (h : e ∈ o.d) : SizeOf.sizeOf e.2 < SizeOf.sizeOf o := by
  cases o
  have h1 := List.sizeOf_lt_of_mem h
  simp only [Ob.d] at h1
  have h2 : SizeOf.sizeOf e.2 < SizeOf.sizeOf e := by cases e; simp; omega
  simp only [Ob.mk.sizeOf_spec]; omega

/- The text's own side. -/
open Lx

def wholeT (t : Tok) : Bool := t.kind == 1 && t.whole && decide (0 ≤ t.f)
def isW (t : Tok) (s : List UInt8) : Bool := t.kind == 8 && t.s == s
def str (l : List UInt8) : ByteArray := ⟨l.toArray⟩
def numV (t : Tok) : Ob := .mk 2 (if t.whole then 1 else 0) t.f ⟨#[]⟩ [] []
/-- A token, as a reader that forgets errors takes it. -/
def tokOf (x : Int × Tok) : Tok := if x.1 = 0 then x.2 else zero
/-- A Num or a Ref, and the place behind. -/
def numberV (l : List UInt8) (t : Tok) : Ob × Nat :=
  if wholeT t then
    if wholeT (tokOf (nextV l t.to)) then
      if isW (tokOf (nextV l (tokOf (nextV l t.to)).to)) [82] then (.mk 7 (t.f.tdiv 1000) (tokOf (nextV l t.to)).f ⟨#[]⟩ [] [], (tokOf (nextV l (tokOf (nextV l t.to)).to)).to)
      else (numV t, t.to)
    else (numV t, t.to)
  else (numV t, t.to)
def wordV (s : List UInt8) : Int × Ob :=
  if s == [116, 114, 117, 101] then (0, .mk 1 1 0 ⟨#[]⟩ [] [])
  else if s == [102, 97, 108, 115, 101] then (0, .mk 1 0 0 ⟨#[]⟩ [] [])
  else if s == [110, 117, 108, 108] then (0, nul)
  else (3, nul)
/-- Entries as they were written, settled. -/
def settle (d : List Entr) : List Entr := d.foldl (fun a e => setD a e.1 e.2) []

mutual
/-- The object that begins with a token; fuel, and how deep. -/
def objOf : Nat → List UInt8 → Nat → Tok → Int × Ob × Nat
  | 0, _, _, _ => (3, nul, 0)
  | F + 1, l, dep, t =>
    if t.kind = 0 then (4, nul, 0)
    else if t.kind = 1 then (0, (numberV l t).1, (numberV l t).2)
    else if t.kind = 2 then (0, .mk 3 0 0 (str t.s) [] [], t.to)
    else if t.kind = 3 then (0, .mk 4 0 0 (str t.s) [] [], t.to)
    else if t.kind = 8 then ((wordV t.s).1, (wordV t.s).2, if (wordV t.s).1 = 0 then t.to else 0)
    else if t.kind = 4 then
      if dep = 64 then (5, nul, 0)
      else if (upO F l (dep + 1) [] t.to).1 = 0 then (0, .mk 5 0 0 ⟨#[]⟩ (upO F l (dep + 1) [] t.to).2.1 [], (upO F l (dep + 1) [] t.to).2.2)
      else ((upO F l (dep + 1) [] t.to).1, nul, 0)
    else if t.kind = 6 then
      if dep = 64 then (5, nul, 0)
      else if (upE F l (dep + 1) [] t.to).1 = 0 then (0, .mk 6 0 0 ⟨#[]⟩ [] (settle (upE F l (dep + 1) [] t.to).2.1), (upE F l (dep + 1) [] t.to).2.2)
      else ((upE F l (dep + 1) [] t.to).1, nul, 0)
    else (3, nul, 0)
/-- Objects up to Close. -/
def upO : Nat → List UInt8 → Nat → List Ob → Nat → Int × List Ob × Nat
  | 0, _, _, _, _ => (3, [], 0)
  | F + 1, l, dep, acc, at_ =>
    if (nextV l at_).1 ≠ 0 then ((nextV l at_).1, [], 0)
    else if (nextV l at_).2.kind = 5 then (0, acc, (nextV l at_).2.to)
    else if (nextV l at_).2.kind = 0 then (4, [], 0)
    else if acc.length = 1024 then (6, [], 0)
    else if (objOf F l dep (nextV l at_).2).1 = 0 then upO F l dep (acc ++ [(objOf F l dep (nextV l at_).2).2.1]) (objOf F l dep (nextV l at_).2).2.2
    else ((objOf F l dep (nextV l at_).2).1, [], 0)
/-- Entries up to Finish. -/
def upE : Nat → List UInt8 → Nat → List Entr → Nat → Int × List Entr × Nat
  | 0, _, _, _, _ => (3, [], 0)
  | F + 1, l, dep, acc, at_ =>
    if (nextV l at_).1 ≠ 0 then ((nextV l at_).1, [], 0)
    else if (nextV l at_).2.kind = 7 then (0, acc, (nextV l at_).2.to)
    else if (nextV l at_).2.kind = 0 then (4, [], 0)
    else if acc.length = 1024 then (6, [], 0)
    else if (entOf F l dep (nextV l at_).2).1 = 0 then upE F l dep (acc ++ [(entOf F l dep (nextV l at_).2).2.1]) (entOf F l dep (nextV l at_).2).2.2
    else ((entOf F l dep (nextV l at_).2).1, [], 0)
/-- The entry whose key is a token. -/
def entOf : Nat → List UInt8 → Nat → Tok → Int × Entr × Nat
  | 0, _, _, _ => (3, (⟨#[]⟩, nul), 0)
  | F + 1, l, dep, t =>
    if t.kind ≠ 2 then (3, (⟨#[]⟩, nul), 0)
    else if (nextV l t.to).1 ≠ 0 then ((nextV l t.to).1, (⟨#[]⟩, nul), 0)
    else if (objOf F l dep (nextV l t.to).2).1 = 0 then (0, (str t.s, (objOf F l dep (nextV l t.to).2).2.1), (objOf F l dep (nextV l t.to).2).2.2)
    else ((objOf F l dep (nextV l t.to).2).1, (⟨#[]⟩, nul), 0)
end

/-- The object at a place, and the place behind it. -/
def parse (l : List UInt8) (at_ : Int) : Int × Ob × Nat :=
  if (nextV l at_).1 ≠ 0 then ((nextV l at_).1, nul, 0)
  else objOf (3 * l.length + 2) l 0 (nextV l at_).2

end Go.Proofs.YtkobcgemllcfoaaDoor.Cx
