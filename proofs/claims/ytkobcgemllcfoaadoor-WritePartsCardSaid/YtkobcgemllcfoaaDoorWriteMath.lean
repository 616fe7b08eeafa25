/-
  Objects as texts, and why one may not be written: what package write answers. Nothing of the program is named here.
-/
import Derived.Test.YtkobcgemllcfoaaDoorCosSameMath
namespace Go.Proofs.YtkobcgemllcfoaaDoor.Cx

/-- Whole: without thousandths. -/
def wholeF (f : Int) : Bool := f.tmod 1000 == 0
/-- Has each entry an object, and a key of its own? -/
def senseD : List Entr → List Entr → Bool
  | _, [] => true
  | seen, e :: r => if hasK seen e.1 || e.2.k == 0 then false else senseD (seen ++ [e]) r
def Ob.sense (o : Ob) : Bool :=
  if o.k = 0 ∨ o.k = 3 ∨ o.k = 4 ∨ o.k = 5 then true
  else if o.k = 1 then o.n == 0 || o.n == 1
  else if o.k = 2 then o.n == 0 || (o.n == 1 && wholeF o.f)
  else if o.k = 7 then decide (0 ≤ o.n) && (decide (0 ≤ o.f) && wholeF o.f)
  else if o.k = 6 ∨ o.k = 8 then senseD [] o.d
  else false
def Ob.inRange (o : Ob) : Bool :=
  if o.k = 2 then Fx.saneB o.f
  else if o.k = 7 then Fx.saneB o.f && decide (o.n ≤ 2147483)
  else true
def Ob.many (o : Ob) : Bool := (o.k == 5 && decide (1024 < o.l.length)) || (o.ents && decide (1024 < o.d.length))
def Ob.nest (o : Ob) : Bool := o.k == 5 || o.ents
/-- Of an object itself, so many deep. -/
def own (o : Ob) (dep : Nat) : Int :=
  if !o.sense || (o.k == 8 && decide (0 < dep)) then 1 else if !o.inRange then 2 else if o.many then 6 else if o.nest && decide (64 ≤ dep) then 5 else 0

mutual
def Ob.sane : Ob → Nat → Int
  | .mk k n f s l d, dep => if own (.mk k n f s l d) dep ≠ 0 then own (.mk k n f s l d) dep else if k = 5 then saneL l (dep + 1) else if k = 6 ∨ k = 8 then saneE d (dep + 1) else 0
def saneL : List Ob → Nat → Int
  | [], _ => 0
  | x :: r, dep => if x.sane dep ≠ 0 then x.sane dep else saneL r dep
def saneE : List (ByteArray × Ob) → Nat → Int
  | [], _ => 0
  | (_, x) :: r, dep => if x.sane dep ≠ 0 then x.sane dep else saneE r dep
end

def nullT : List UInt8 := [110, 117, 108, 108]
def trueT : List UInt8 := [116, 114, 117, 101]
def falseT : List UInt8 := [102, 97, 108, 115, 101]
def numT (n f : Int) : List UInt8 := Fx.printL f ++ (if n = 0 ∧ wholeF f = true then [46, 48] else [])
mutual
/-- An object that may be, as a text. -/
def Ob.text : Ob → List UInt8
  | .mk k n f s l d =>
    if k = 0 then nullT
    else if k = 1 then (if n = 1 then trueT else falseT)
    else if k = 2 then numT n f
    else if k = 3 then Lx.nameV s.data.toList
    else if k = 4 then Lx.quoteV s.data.toList
    else if k = 5 then 91 :: (textL false l ++ [93])
    else if k = 6 then [60, 60] ++ textD false d ++ [62, 62]
    else if k = 7 then Lib.itoa n ++ [32] ++ Fx.printL f ++ [32, 82]
    else if k = 8 then ([60, 60] ++ textD false d ++ [62, 62]) ++ ([10, 115, 116, 114, 101, 97, 109, 10] ++ s.data.toList ++ [10, 101, 110, 100, 115, 116, 114, 101, 97, 109])
    else []
def textL : Bool → List Ob → List UInt8
  | _, [] => []
  | b, x :: r => (if b then [32] else []) ++ x.text ++ textL true r
def textD : Bool → List (ByteArray × Ob) → List UInt8
  | _, [] => []
  | b, (key, x) :: r => (if b then [32] else []) ++ (Lx.nameV key.data.toList ++ [32]) ++ x.text ++ textD true r
end

theorem sane_mk (k n f : Int) (s : ByteArray) (l : List Ob) (d : List Entr) (dep : Nat) : (Ob.mk k n f s l d).sane dep = if own (.mk k n f s l d) dep ≠ 0 then own (.mk k n f s l d) dep else if k = 5 then saneL l (dep + 1) else if k = 6 ∨ k = 8 then saneE d (dep + 1) else 0 := by rw [Ob.sane]
theorem sane_eq (o : Ob) (dep : Nat) : o.sane dep = if own o dep ≠ 0 then own o dep else if o.k = 5 then saneL o.l (dep + 1) else if o.k = 6 ∨ o.k = 8 then saneE o.d (dep + 1) else 0 := by
  obtain ⟨k, n, f, s, l, d⟩ := o
  exact sane_mk k n f s l d dep
theorem saneL_nil (dep : Nat) : saneL [] dep = 0 := by rw [saneL]
theorem saneE_nil (dep : Nat) : saneE [] dep = 0 := by rw [saneE]
theorem saneL_cons (x : Ob) (r : List Ob) (dep : Nat) : saneL (x :: r) dep = if x.sane dep ≠ 0 then x.sane dep else saneL r dep := by rw [saneL]
theorem saneE_cons (e : Entr) (r : List Entr) (dep : Nat) : saneE (e :: r) dep = if e.2.sane dep ≠ 0 then e.2.sane dep else saneE r dep := by cases e; rw [saneE]
theorem saneL_step (l : List Ob) (i : Nat) (h : i < l.length) (dep : Nat) : saneL (l.drop i) dep = if l[i].sane dep ≠ 0 then l[i].sane dep else saneL (l.drop (i + 1)) dep := by
  rw [List.drop_eq_getElem_cons h, saneL_cons]
theorem saneE_step (l : List Entr) (i : Nat) (h : i < l.length) (dep : Nat) : saneE (l.drop i) dep = if l[i].2.sane dep ≠ 0 then l[i].2.sane dep else saneE (l.drop (i + 1)) dep := by
  rw [List.drop_eq_getElem_cons h, saneE_cons]
theorem senseD_step (d : List Entr) (i : Nat) (h : i < d.length) : senseD (d.take i) (d.drop i) = if hasK (d.take i) d[i].1 || d[i].2.k == 0 then false else senseD (d.take (i + 1)) (d.drop (i + 1)) := by
  rw [List.drop_eq_getElem_cons h, senseD, ← List.take_succ_eq_append_getElem h]
theorem own_vals (o : Ob) (dep : Nat) : own o dep = 0 ∨ own o dep = 1 ∨ own o dep = 2 ∨ own o dep = 5 ∨ own o dep = 6 := by
  unfold own
  split
  · simp
  · split
    · simp
    · split
      · simp
      · split <;> simp

theorem text_mk (k n f : Int) (s : ByteArray) (l : List Ob) (d : List Entr) : (Ob.mk k n f s l d).text =
    if k = 0 then nullT
    else if k = 1 then (if n = 1 then trueT else falseT)
    else if k = 2 then numT n f
    else if k = 3 then Lx.nameV s.data.toList
    else if k = 4 then Lx.quoteV s.data.toList
    else if k = 5 then 91 :: (textL false l ++ [93])
    else if k = 6 then [60, 60] ++ textD false d ++ [62, 62]
    else if k = 7 then Lib.itoa n ++ [32] ++ Fx.printL f ++ [32, 82]
    else if k = 8 then ([60, 60] ++ textD false d ++ [62, 62]) ++ ([10, 115, 116, 114, 101, 97, 109, 10] ++ s.data.toList ++ [10, 101, 110, 100, 115, 116, 114, 101, 97, 109])
    else [] := by rw [Ob.text]
theorem textL_nil (b : Bool) : textL b [] = [] := by rw [textL]
theorem textD_nil (b : Bool) : textD b [] = [] := by rw [textD]
theorem textL_cons (b : Bool) (x : Ob) (r : List Ob) : textL b (x :: r) = (if b then [32] else []) ++ x.text ++ textL true r := by rw [textL]
theorem textD_cons (b : Bool) (e : Entr) (r : List Entr) : textD b (e :: r) = (if b then [32] else []) ++ (Lx.nameV e.1.data.toList ++ [32]) ++ e.2.text ++ textD true r := by cases e; rw [textD]
theorem textL_step (l : List Ob) (i : Nat) (h : i < l.length) : textL (decide (0 < i)) (l.drop i) = (if 0 < i then [32] else []) ++ l[i].text ++ textL (decide (0 < i + 1)) (l.drop (i + 1)) := by
  rw [List.drop_eq_getElem_cons h, textL_cons]
  simp
theorem textD_step (l : List Entr) (i : Nat) (h : i < l.length) : textD (decide (0 < i)) (l.drop i) = (if 0 < i then [32] else []) ++ (Lx.nameV l[i].1.data.toList ++ [32]) ++ l[i].2.text ++ textD (decide (0 < i + 1)) (l.drop (i + 1)) := by
  rw [List.drop_eq_getElem_cons h, textD_cons]
  simp

end Go.Proofs.YtkobcgemllcfoaaDoor.Cx
