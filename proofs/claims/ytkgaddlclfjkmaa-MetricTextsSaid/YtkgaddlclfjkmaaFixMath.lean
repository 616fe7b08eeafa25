/-
  Plain numbers of package fix: what each of its functions answers, as functions on integers, and small facts on them. Nothing of the program is named here.
-/
import Derived.Lib.ItoaNum
import Derived.Lib.IndexMore
import Derived.Lib.TrimByte
namespace Go.Proofs.Ytkgaddlclfjkmaa.Fx

theorem getD_at (zs : List Int) (k : Nat) (h : k < zs.length) : zs.getD k 0 = zs[k] := by simp [List.getD, h]

/-- May a number be? -/
def saneB (x : Int) : Bool := decide (-2147483648 ≤ x) && decide (x ≤ 2147483648)
theorem sane_iff {x : Int} : saneB x = true ↔ -2147483648 ≤ x ∧ x ≤ 2147483648 := by
  unfold saneB; simp
theorem sane_not {x : Int} : saneB x = false ↔ ¬ (-2147483648 ≤ x ∧ x ≤ 2147483648) := by
  rw [← sane_iff]; simp
theorem sane_lo {x : Int} (h : saneB x = true) : -2147483648 ≤ x := (sane_iff.1 h).1
theorem sane_hi {x : Int} (h : saneB x = true) : x ≤ 2147483648 := (sane_iff.1 h).2

/-- How far from 0. -/
def mag (x : Int) : Int := if x < 0 then -x else x

/-- A quotient, rounded, half away from 0; the second number is not 0. -/
def rnd (n d : Int) : Int :=
  if 2 * mag (n.tmod d) < mag d then n.tdiv d
  else if decide (n < 0) != decide (d < 0) then n.tdiv d - 1 else n.tdiv d + 1

theorem tdiv_bd (n d : Int) : -(mag n) ≤ n.tdiv d ∧ n.tdiv d ≤ mag n := by
  have h := Int.natAbs_tdiv_le_natAbs n d
  unfold mag
  split <;> omega
theorem tmod_bd (n d : Int) (hd : d ≠ 0) : -(mag d) < n.tmod d ∧ n.tmod d < mag d := by
  have h : (n.tmod d).natAbs < d.natAbs := by rw [Int.natAbs_tmod]; exact Nat.mod_lt _ (by omega)
  unfold mag
  split <;> omega
theorem mag_nonneg (x : Int) : 0 ≤ mag x := by unfold mag; split <;> omega
theorem mag_le {x b : Int} (h : -b ≤ x) (h' : x ≤ b) : mag x ≤ b := by unfold mag; split <;> omega

theorem rnd_low {n d : Int} (h : 2 * mag (n.tmod d) < mag d) : rnd n d = n.tdiv d := if_pos h
theorem rnd_less {n d : Int} (h : mag d ≤ 2 * mag (n.tmod d)) (hs : n < 0 ∧ 0 ≤ d ∨ 0 ≤ n ∧ d < 0) : rnd n d = n.tdiv d - 1 := by
  have e : (decide (n < 0) != decide (d < 0)) = true := by
    rcases hs with ⟨a, b⟩ | ⟨a, b⟩
    · rw [decide_eq_true a, decide_eq_false (show ¬ d < 0 by omega)]; rfl
    · rw [decide_eq_true b, decide_eq_false (show ¬ n < 0 by omega)]; rfl
  rw [rnd, if_neg (by omega), if_pos e]
theorem rnd_more {n d : Int} (h : mag d ≤ 2 * mag (n.tmod d)) (hs : n < 0 ∧ d < 0 ∨ 0 ≤ n ∧ 0 ≤ d) : rnd n d = n.tdiv d + 1 := by
  have e : ¬ (decide (n < 0) != decide (d < 0)) = true := by
    rcases hs with ⟨a, b⟩ | ⟨a, b⟩
    · rw [decide_eq_true a, decide_eq_true b]; simp
    · rw [decide_eq_false (show ¬ n < 0 by omega), decide_eq_false (show ¬ d < 0 by omega)]; simp
  rw [rnd, if_neg (by omega), if_neg e]

/-- A number, if it may be; and the error's number. -/
def chkV (x : Int) : Int := if saneB x = true then x else 0
def chkE (x : Int) : Int := if saneB x = true then 0 else 2

def addV (a b : Int) : Int := if saneB a = true ∧ saneB b = true then chkV (a + b) else 0
def addE (a b : Int) : Int := if saneB a = true ∧ saneB b = true then chkE (a + b) else 2
def subV (a b : Int) : Int := if saneB a = true ∧ saneB b = true then chkV (a - b) else 0
def subE (a b : Int) : Int := if saneB a = true ∧ saneB b = true then chkE (a - b) else 2
def mulV (a b : Int) : Int := if saneB a = true ∧ saneB b = true then chkV (rnd (a * b) 1000) else 0
def mulE (a b : Int) : Int := if saneB a = true ∧ saneB b = true then chkE (rnd (a * b) 1000) else 2
def divV (a b : Int) : Int := if saneB a = true ∧ saneB b = true then (if b = 0 then 0 else chkV (rnd (a * 1000) b)) else 0
def divE (a b : Int) : Int := if saneB a = true ∧ saneB b = true then (if b = 0 then 1 else chkE (rnd (a * 1000) b)) else 2

theorem mul_bd {a b : Int} (ha : saneB a = true) (hb : saneB b = true) : -4611686018427387904 ≤ a * b ∧ a * b ≤ 4611686018427387904 := by
  obtain ⟨a0, a1⟩ := sane_iff.1 ha
  obtain ⟨b0, b1⟩ := sane_iff.1 hb
  have h : (a * b).natAbs ≤ 2147483648 * 2147483648 := by
    rw [Int.natAbs_mul]; exact Nat.mul_le_mul (by omega) (by omega)
  omega

/-- A whole number. -/
def intV (n : Int) : Int := if -2147483 ≤ n ∧ n ≤ 2147483 then n * 1000 else 0
def intE (n : Int) : Int := if -2147483 ≤ n ∧ n ≤ 2147483 then 0 else 2
theorem int_in {n : Int} (h : -2147483 ≤ n ∧ n ≤ 2147483) : intV n = n * 1000 ∧ intE n = 0 := ⟨if_pos h, if_pos h⟩
theorem int_out {n : Int} (h : ¬ (-2147483 ≤ n ∧ n ≤ 2147483)) : intV n = 0 ∧ intE n = 2 := ⟨if_neg h, if_neg h⟩

/-- A digit. -/
def isDig (c : UInt8) : Bool := decide (48 ≤ c.toNat) && decide (c.toNat ≤ 57)
theorem isDig_iff {c : UInt8} : isDig c = true ↔ 48 ≤ c.toNat ∧ c.toNat ≤ 57 := by unfold isDig; simp

/-- Digits alone. -/
def allDig (l : List UInt8) : Bool := l.all isDig
theorem allDig_snoc {l : List UInt8} {c : UInt8} (h : allDig l = true) (hc : isDig c = true) : allDig (l ++ [c]) = true := by
  unfold allDig at *; simp [h, hc]
theorem allDig_no {l : List UInt8} {c : UInt8} (hm : c ∈ l) (hc : isDig c = false) : allDig l = false :=
  List.all_eq_false.2 ⟨c, hm, by rw [hc]; simp⟩
theorem allDig_mem {l : List UInt8} {c : UInt8} (h : allDig l = true) (hm : c ∈ l) : isDig c = true := List.all_eq_true.1 h c hm
theorem allDig_cons {c : UInt8} {r : List UInt8} : allDig (c :: r) = true ↔ isDig c = true ∧ allDig r = true := by
  unfold allDig; rw [List.all_cons, Bool.and_eq_true]

theorem allDig_take {l : List UInt8} (h : allDig l = true) (k : Nat) : allDig (l.take k) = true :=
  List.all_eq_true.2 fun _ hc => allDig_mem h (List.mem_of_mem_take hc)

/-- A number with one more digit; one that is too great already stays. -/
def grown (n c : Int) : Int := if 2147483648 < n then n else 10 * n + (c - 48)
theorem grown_bd {n c : Int} (h0 : 0 ≤ n) (h1 : n ≤ 30000000000) (hc : 48 ≤ c) (hc' : c ≤ 57) : 0 ≤ grown n c ∧ grown n c ≤ 30000000000 := by
  unfold grown; split <;> omega

/-- A digit of a text, or 48 behind its end. -/
def dAt (l : List UInt8) (i : Nat) : Int := ((l[i]?).getD 48).toNat
theorem dAt_dig {l : List UInt8} (h : allDig l = true) (i : Nat) : 48 ≤ dAt l i ∧ dAt l i ≤ 57 := by
  unfold dAt
  by_cases hi : i < l.length
  · have := isDig_iff.1 (allDig_mem h (List.getElem_mem hi))
    rw [List.getElem?_eq_getElem hi, Option.getD_some]; omega
  · rw [List.getElem?_eq_none (by omega), Option.getD_none]; decide

/-- The digits of a text, one behind the other. -/
def grownAll (n : Int) (l : List UInt8) : Int := l.foldl (fun n c => grown n c.toNat) n
theorem grownAll_snoc (n : Int) (l : List UInt8) (c : UInt8) : grownAll n (l ++ [c]) = grown (grownAll n l) c.toNat := by
  simp [grownAll]
theorem grownAll_bd {l : List UInt8} (h : allDig l = true) : ∀ {n : Int}, 0 ≤ n → n ≤ 30000000000 → 0 ≤ grownAll n l ∧ grownAll n l ≤ 30000000000 := by
  induction l with
  | nil => intro n h0 h1; exact ⟨h0, h1⟩
  | cons c r ih =>
    intro n h0 h1
    rw [allDig_cons] at h
    have hc := isDig_iff.1 h.1
    have := grown_bd (c := c.toNat) h0 h1 (by omega) (by omega)
    exact ih h.2 this.1 this.2

/-- The number of the digits ahead of the point and behind it, rounded. -/
def thou3 (whole part : List UInt8) : Nat → Int
  | 0 => grownAll 0 whole
  | k + 1 => grown (thou3 whole part k) (dAt part k)
def thou (whole part : List UInt8) : Int := if 53 ≤ dAt part 3 then thou3 whole part 3 + 1 else thou3 whole part 3
theorem thou3_bd {whole part : List UInt8} (hw : allDig whole = true) (hp : allDig part = true) (k : Nat) : 0 ≤ thou3 whole part k ∧ thou3 whole part k ≤ 30000000000 := by
  induction k with
  | zero => exact grownAll_bd hw (by omega) (by omega)
  | succ k ih => exact grown_bd ih.1 ih.2 (dAt_dig hp k).1 (dAt_dig hp k).2
theorem thou_bd {whole part : List UInt8} (hw : allDig whole = true) (hp : allDig part = true) : 0 ≤ thou whole part ∧ thou whole part ≤ 30000000001 := by
  have := thou3_bd hw hp 3
  unfold thou; split <;> omega

/-- A minus ahead? And what is behind the sign. -/
def signOf : List UInt8 → Bool
  | c :: _ => c == 45
  | [] => false
def behindSign : List UInt8 → List UInt8
  | c :: r => if c == 43 || c == 45 then r else c :: r
  | [] => []

theorem sign_plus {c : UInt8} (h : c.toNat = 43) (r : List UInt8) : signOf (c :: r) = false ∧ behindSign (c :: r) = r := by
  obtain rfl : c = 43 := UInt8.toNat_inj.1 h
  exact ⟨rfl, rfl⟩
theorem sign_minus {c : UInt8} (h : c.toNat = 45) (r : List UInt8) : signOf (c :: r) = true ∧ behindSign (c :: r) = r := by
  obtain rfl : c = 45 := UInt8.toNat_inj.1 h
  exact ⟨rfl, rfl⟩
theorem sign_none {c : UInt8} (h : c.toNat ≠ 43) (h' : c.toNat ≠ 45) (r : List UInt8) : signOf (c :: r) = false ∧ behindSign (c :: r) = c :: r := by
  have a : (c == 43) = false := by rw [beq_eq_false_iff_ne]; rintro rfl; exact h rfl
  have b : (c == 45) = false := by rw [beq_eq_false_iff_ne]; rintro rfl; exact h' rfl
  exact ⟨b, by simp [behindSign, a, b]⟩

theorem behindSign_le (l : List UInt8) : (behindSign l).length ≤ l.length := by
  cases l with
  | nil => exact Nat.le_refl _
  | cons c r =>
    show (if c == 43 || c == 45 then r else c :: r).length ≤ _
    by_cases h : (c == 43 || c == 45) = true
    · rw [if_pos h]; exact Nat.le_succ _
    · rw [if_neg h]; exact Nat.le_refl _

/-- What stands ahead of the first point and behind it. -/
def wholeOf (d : List UInt8) : List UInt8 := (Lib.cut d [46]).1
def partOf (d : List UInt8) : List UInt8 := (Lib.cut d [46]).2.1
def pointIn (d : List UInt8) : Bool := (Lib.cut d [46]).2.2
theorem wholeOf_le (d : List UInt8) : (wholeOf d).length ≤ d.length := by
  unfold wholeOf Lib.cut; split <;> simp [List.length_take]; omega
theorem partOf_le (d : List UInt8) : (partOf d).length ≤ d.length := by
  unfold partOf Lib.cut; split <;> simp

/-- May the text behind the sign be a number's? -/
def formB (d : List UInt8) : Bool := !((wholeOf d).length + (partOf d).length == 0) && allDig (wholeOf d) && allDig (partOf d)
/-- The number of a text that is one, whatever its size. -/
def numOf (l : List UInt8) : Int := if signOf l = true then -(thou (wholeOf (behindSign l)) (partOf (behindSign l))) else thou (wholeOf (behindSign l)) (partOf (behindSign l))
def parseV (l : List UInt8) : Int := if 400 < l.length then 0 else if formB (behindSign l) = true then chkV (numOf l) else 0
def parseE (l : List UInt8) : Int := if 400 < l.length then 2 else if formB (behindSign l) = true then chkE (numOf l) else 3
theorem parse_long {l : List UInt8} (h : 400 < l.length) : parseV l = 0 ∧ parseE l = 2 := ⟨if_pos h, if_pos h⟩
theorem parse_form {l : List UInt8} (h : ¬ 400 < l.length) (h' : formB (behindSign l) = false) : parseV l = 0 ∧ parseE l = 3 := by
  unfold parseV parseE; rw [if_neg h, if_neg h, h']; exact ⟨rfl, rfl⟩
theorem parse_num {l : List UInt8} (h : ¬ 400 < l.length) (h' : formB (behindSign l) = true) : parseV l = chkV (numOf l) ∧ parseE l = chkE (numOf l) := by
  unfold parseV parseE; rw [if_neg h, if_neg h, if_pos h', if_pos h']; exact ⟨rfl, rfl⟩
theorem form_zero {d : List UInt8} (h : (wholeOf d).length + (partOf d).length = 0) : formB d = false := by
  unfold formB; rw [beq_iff_eq.2 h]; rfl
theorem form_whole {d : List UInt8} (h : allDig (wholeOf d) = false) : formB d = false := by
  unfold formB; rw [h]; simp
theorem form_part {d : List UInt8} (h : allDig (partOf d) = false) : formB d = false := by
  unfold formB; rw [h]; simp
theorem form_yes {d : List UInt8} (h : (wholeOf d).length + (partOf d).length ≠ 0) (h1 : allDig (wholeOf d) = true) (h2 : allDig (partOf d) = true) : formB d = true := by
  unfold formB; rw [h1, h2, beq_eq_false_iff_ne.2 h]; rfl

/-- The point and the digits of 0 to 999 thousandths. -/
def trimT (t : List UInt8) : List UInt8 := Lib.trimRightB (t.drop 1) 48
def partT (n : Int) : List UInt8 := if n = 0 then [] else 46 :: trimT (Lib.itoa (1000 + n))
/-- A number as a text. -/
def printL (f : Int) : List UInt8 :=
  if saneB f = true then (if f < 0 then 45 :: (Lib.itoa (mag f / 1000) ++ partT (mag f % 1000)) else Lib.itoa (mag f / 1000) ++ partT (mag f % 1000)) else []
theorem print_minus {g : Int} (h : saneB (-g) = true) (hg : 0 < g) : printL (-g) = 45 :: (Lib.itoa (g / 1000) ++ partT (g % 1000)) := by
  rw [printL, if_pos h, if_pos (by omega), show mag (-g) = g by unfold mag; rw [if_pos (by omega)]; omega]
theorem print_plus {f : Int} (h : saneB f = true) (hf : ¬ f < 0) : printL f = Lib.itoa (f / 1000) ++ partT (f % 1000) := by
  rw [printL, if_pos h, if_neg hf, show mag f = f from if_neg hf]
theorem print_none {f : Int} (h : saneB f = false) : printL f = [] := if_neg (by rw [h]; simp)
theorem nDigits_le : ∀ (k u : Nat), u < 10 ^ (k + 1) → Lib.nDigits u ≤ k + 1
  | 0, u, h => by rw [Lib.nDigits_small (by omega)]; exact Nat.le_refl _
  | k + 1, u, h => by
    by_cases hu : u < 10
    · rw [Lib.nDigits_small hu]; omega
    · rw [Lib.nDigits_big hu]
      have := nDigits_le k (u / 10) (by rw [Nat.pow_succ] at h; omega)
      omega
theorem itoa_pos {n : Int} (h0 : 0 ≤ n) : Lib.itoa n = Lib.decDigits n.toNat := if_neg (by omega)
theorem itoa_len {n : Int} (h0 : 0 ≤ n) (h1 : n < 10000000000000000000) : 1 ≤ (Lib.itoa n).length ∧ (Lib.itoa n).length ≤ 20 := by
  rw [itoa_pos h0, Lib.decDigits_length]
  have := nDigits_le 19 n.toNat (by omega)
  have := Lib.nDigits_pos n.toNat
  omega

theorem trim_len (l : List UInt8) (c : UInt8) : (Lib.trimRightB l c).length ≤ l.length := by
  unfold Lib.trimRightB
  rw [List.length_reverse]
  exact Nat.le_trans (List.dropWhile_sublist _).length_le (by simp)
theorem trimT_len (t : List UInt8) (h : 1 ≤ t.length) : (trimT t).length + 1 ≤ t.length := by
  have := trim_len (t.drop 1) 48
  rw [List.length_drop] at this
  unfold trimT; omega
theorem part_len {n : Int} (h0 : 0 ≤ n) (h1 : n ≤ 999) : (partT n).length ≤ 20 := by
  have h := itoa_len (n := 1000 + n) (by omega) (by omega)
  unfold partT
  split
  · simp
  · have := trimT_len (Lib.itoa (1000 + n)) h.1
    rw [List.length_cons]
    omega

end Go.Proofs.Ytkgaddlclfjkmaa.Fx
