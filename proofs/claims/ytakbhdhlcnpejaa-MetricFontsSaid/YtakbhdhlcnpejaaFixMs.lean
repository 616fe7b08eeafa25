/-
  Plain numbers of package fix: what each of its functions answers, as functions on integers, and small facts on them. Nothing of the program is named here.
  Plain numbers behind the laws of package fix: order, signs, nearness.
  Plain texts behind the laws FixBack and FixWhole: a number's text, parsed, is the number.
-/
import Derived.Lib.ItoaNum
import Derived.Lib.IndexMore
import Derived.Lib.TrimByte
namespace Go.Proofs.Ytakbhdhlcnpejaa.Fx

theorem getD_at (zs : List Int) (k : Nat) (h : k < zs.length) : zs.getD k 0 = zs[k] := by simp [List.getD, h]

/-- May a number be? -/
def saneB (x : Int) : Bool := decide (-2147483648 ≤ x) && decide (x ≤ 2147483648)
theorem sane_iff {x : Int} : saneB x = true ↔ -2147483648 ≤ x ∧ x ≤ 2147483648 := by
  unfold saneB; simp
theorem sane_not {x : Int} : saneB x = false ↔ ¬ (-2147483648 ≤ x ∧ x ≤ 2147483648) := by
  rw [← sane_iff]; simp
theorem sane_lo {x : Int} (h : saneB x = true) : -2147483648 ≤ x := (sane_iff.1 h).1
theorem sane_hi {x : Int} (h : saneB x = true) : x ≤ 2147483648 := (sane_iff.1 h).2

/-- How far from 0. -/
def mag (x : Int) : Int := if x < 0 then -x else x

/-- A quotient, rounded, half away from 0; the second number is not 0. -/
def rnd (n d : Int) : Int :=
  if 2 * mag (n.tmod d) < mag d then n.tdiv d
  else if decide (n < 0) != decide (d < 0) then n.tdiv d - 1 else n.tdiv d + 1

theorem tdiv_bd (n d : Int) : -(mag n) ≤ n.tdiv d ∧ n.tdiv d ≤ mag n := by
  have h := Int.natAbs_tdiv_le_natAbs n d
  unfold mag
  split <;> omega
theorem tmod_bd (n d : Int) (hd : d ≠ 0) : -(mag d) < n.tmod d ∧ n.tmod d < mag d := by
  have h : (n.tmod d).natAbs < d.natAbs := by rw [Int.natAbs_tmod]; exact Nat.mod_lt _ (by omega)
  unfold mag
  split <;> omega
theorem mag_nonneg (x : Int) : 0 ≤ mag x := by unfold mag; split <;> omega
theorem mag_le {x b : Int} (h : -b ≤ x) (h' : x ≤ b) : mag x ≤ b := by unfold mag; split <;> omega

theorem rnd_low {n d : Int} (h : 2 * mag (n.tmod d) < mag d) : rnd n d = n.tdiv d := if_pos h
theorem rnd_less {n d : Int} (h : mag d ≤ 2 * mag (n.tmod d)) (hs : n < 0 ∧ 0 ≤ d ∨ 0 ≤ n ∧ d < 0) : rnd n d = n.tdiv d - 1 := by
  have e : (decide (n < 0) != decide (d < 0)) = true := by
    rcases hs with ⟨a, b⟩ | ⟨a, b⟩
    · rw [decide_eq_true a, decide_eq_false (show ¬ d < 0 by omega)]; rfl
    · rw [decide_eq_true b, decide_eq_false (show ¬ n < 0 by omega)]; rfl
  rw [rnd, if_neg (by omega), if_pos e]
theorem rnd_more {n d : Int} (h : mag d ≤ 2 * mag (n.tmod d)) (hs : n < 0 ∧ d < 0 ∨ 0 ≤ n ∧ 0 ≤ d) : rnd n d = n.tdiv d + 1 := by
  have e : ¬ (decide (n < 0) != decide (d < 0)) = true := by
    rcases hs with ⟨a, b⟩ | ⟨a, b⟩
    · rw [decide_eq_true a, decide_eq_true b]; simp
    · rw [decide_eq_false (show ¬ n < 0 by omega), decide_eq_false (show ¬ d < 0 by omega)]; simp
  rw [rnd, if_neg (by omega), if_neg e]

/-- A number, if it may be; and the error's number. -/
def chkV (x : Int) : Int := if saneB x = true then x else 0
def chkE (x : Int) : Int := if saneB x = true then 0 else 2

def addV (a b : Int) : Int := if saneB a = true ∧ saneB b = true then chkV (a + b) else 0
def addE (a b : Int) : Int := if saneB a = true ∧ saneB b = true then chkE (a + b) else 2
def subV (a b : Int) : Int := if saneB a = true ∧ saneB b = true then chkV (a - b) else 0
def subE (a b : Int) : Int := if saneB a = true ∧ saneB b = true then chkE (a - b) else 2
def mulV (a b : Int) : Int := if saneB a = true ∧ saneB b = true then chkV (rnd (a * b) 1000) else 0
def mulE (a b : Int) : Int := if saneB a = true ∧ saneB b = true then chkE (rnd (a * b) 1000) else 2
def divV (a b : Int) : Int := if saneB a = true ∧ saneB b = true then (if b = 0 then 0 else chkV (rnd (a * 1000) b)) else 0
def divE (a b : Int) : Int := if saneB a = true ∧ saneB b = true then (if b = 0 then 1 else chkE (rnd (a * 1000) b)) else 2

theorem mul_bd {a b : Int} (ha : saneB a = true) (hb : saneB b = true) : -4611686018427387904 ≤ a * b ∧ a * b ≤ 4611686018427387904 := by
  obtain ⟨a0, a1⟩ := sane_iff.1 ha
  obtain ⟨b0, b1⟩ := sane_iff.1 hb
  have h : (a * b).natAbs ≤ 2147483648 * 2147483648 := by
    rw [Int.natAbs_mul]; exact Nat.mul_le_mul (by omega) (by omega)
  omega

/-- A whole number. -/
def intV (n : Int) : Int := if -2147483 ≤ n ∧ n ≤ 2147483 then n * 1000 else 0
def intE (n : Int) : Int := if -2147483 ≤ n ∧ n ≤ 2147483 then 0 else 2
theorem int_in {n : Int} (h : -2147483 ≤ n ∧ n ≤ 2147483) : intV n = n * 1000 ∧ intE n = 0 := ⟨if_pos h, if_pos h⟩
theorem int_out {n : Int} (h : ¬ (-2147483 ≤ n ∧ n ≤ 2147483)) : intV n = 0 ∧ intE n = 2 := ⟨if_neg h, if_neg h⟩

/-- A digit. -/
def isDig (c : UInt8) : Bool := decide (48 ≤ c.toNat) && decide (c.toNat ≤ 57)
theorem isDig_iff {c : UInt8} : isDig c = true ↔ 48 ≤ c.toNat ∧ c.toNat ≤ 57 := by unfold isDig; simp

/-- Digits alone. -/
def allDig (l : List UInt8) : Bool := l.all isDig
theorem allDig_snoc {l : List UInt8} {c : UInt8} (h : allDig l = true) (hc : isDig c = true) : allDig (l ++ [c]) = true := by
  unfold allDig at *; simp [h, hc]
theorem allDig_no {l : List UInt8} {c : UInt8} (hm : c ∈ l) (hc : isDig c = false) : allDig l = false :=
  List.all_eq_false.2 ⟨c, hm, by rw [hc]; simp⟩
theorem allDig_mem {l : List UInt8} {c : UInt8} (h : allDig l = true) (hm : c ∈ l) : isDig c = true := List.all_eq_true.1 h c hm
theorem allDig_cons {c : UInt8} {r : List UInt8} : allDig (c :: r) = true ↔ isDig c = true ∧ allDig r = true := by
  unfold allDig; rw [List.all_cons, Bool.and_eq_true]

theorem allDig_take {l : List UInt8} (h : allDig l = true) (k : Nat) : allDig (l.take k) = true :=
  List.all_eq_true.2 fun _ hc => allDig_mem h (List.mem_of_mem_take hc)

/-- A number with one more digit; one that is too great already stays. -/
def grown (n c : Int) : Int := if 2147483648 < n then n else 10 * n + (c - 48)
theorem grown_bd {n c : Int} (h0 : 0 ≤ n) (h1 : n ≤ 30000000000) (hc : 48 ≤ c) (hc' : c ≤ 57) : 0 ≤ grown n c ∧ grown n c ≤ 30000000000 := by
  unfold grown; split <;> omega

/-- A digit of a text, or 48 behind its end. -/
def dAt (l : List UInt8) (i : Nat) : Int := ((l[i]?).getD 48).toNat
theorem dAt_dig {l : List UInt8} (h : allDig l = true) (i : Nat) : 48 ≤ dAt l i ∧ dAt l i ≤ 57 := by
  unfold dAt
  by_cases hi : i < l.length
  · have := isDig_iff.1 (allDig_mem h (List.getElem_mem hi))
    rw [List.getElem?_eq_getElem hi, Option.getD_some]; omega
  · rw [List.getElem?_eq_none (by omega), Option.getD_none]; decide

/-- The digits of a text, one behind the other. -/
def grownAll (n : Int) (l : List UInt8) : Int := l.foldl (fun n c => grown n c.toNat) n
theorem grownAll_snoc (n : Int) (l : List UInt8) (c : UInt8) : grownAll n (l ++ [c]) = grown (grownAll n l) c.toNat := by
  simp [grownAll]
theorem grownAll_bd {l : List UInt8} (h : allDig l = true) : ∀ {n : Int}, 0 ≤ n → n ≤ 30000000000 → 0 ≤ grownAll n l ∧ grownAll n l ≤ 30000000000 := by
  induction l with
  | nil => intro n h0 h1; exact ⟨h0, h1⟩
  | cons c r ih =>
    intro n h0 h1
    rw [allDig_cons] at h
    have hc := isDig_iff.1 h.1
    have := grown_bd (c := c.toNat) h0 h1 (by omega) (by omega)
    exact ih h.2 this.1 this.2

/-- The number of the digits ahead of the point and behind it, rounded. -/
def thou3 (whole part : List UInt8) : Nat → Int
  | 0 => grownAll 0 whole
  | k + 1 => grown (thou3 whole part k) (dAt part k)
def thou (whole part : List UInt8) : Int := if 53 ≤ dAt part 3 then thou3 whole part 3 + 1 else thou3 whole part 3
theorem thou3_bd {whole part : List UInt8} (hw : allDig whole = true) (hp : allDig part = true) (k : Nat) : 0 ≤ thou3 whole part k ∧ thou3 whole part k ≤ 30000000000 := by
  induction k with
  | zero => exact grownAll_bd hw (by omega) (by omega)
  | succ k ih => exact grown_bd ih.1 ih.2 (dAt_dig hp k).1 (dAt_dig hp k).2
theorem thou_bd {whole part : List UInt8} (hw : allDig whole = true) (hp : allDig part = true) : 0 ≤ thou whole part ∧ thou whole part ≤ 30000000001 := by
  have := thou3_bd hw hp 3
  unfold thou; split <;> omega

/-- A minus ahead? And what is behind the sign. -/
def signOf : List UInt8 → Bool
  | c :: _ => c == 45
  | [] => false
def behindSign : List UInt8 → List UInt8
  | c :: r => if c == 43 || c == 45 then r else c :: r
  | [] => []

theorem sign_plus {c : UInt8} (h : c.toNat = 43) (r : List UInt8) : signOf (c :: r) = false ∧ behindSign (c :: r) = r := by
  obtain rfl : c = 43 := UInt8.toNat_inj.1 h
  exact ⟨rfl, rfl⟩
theorem sign_minus {c : UInt8} (h : c.toNat = 45) (r : List UInt8) : signOf (c :: r) = true ∧ behindSign (c :: r) = r := by
  obtain rfl : c = 45 := UInt8.toNat_inj.1 h
  exact ⟨rfl, rfl⟩
theorem sign_none {c : UInt8} (h : c.toNat ≠ 43) (h' : c.toNat ≠ 45) (r : List UInt8) : signOf (c :: r) = false ∧ behindSign (c :: r) = c :: r := by
  have a : (c == 43) = false := by rw [beq_eq_false_iff_ne]; rintro rfl; exact h rfl
  have b : (c == 45) = false := by rw [beq_eq_false_iff_ne]; rintro rfl; exact h' rfl
  exact ⟨b, by simp [behindSign, a, b]⟩

theorem behindSign_le (l : List UInt8) : (behindSign l).length ≤ l.length := by
  cases l with
  | nil => exact Nat.le_refl _
  | cons c r =>
    show (if c == 43 || c == 45 then r else c :: r).length ≤ _
    by_cases h : (c == 43 || c == 45) = true
    · rw [if_pos h]; exact Nat.le_succ _
    · rw [if_neg h]; exact Nat.le_refl _

/-- What stands ahead of the first point and behind it. -/
def wholeOf (d : List UInt8) : List UInt8 := (Lib.cut d [46]).1
def partOf (d : List UInt8) : List UInt8 := (Lib.cut d [46]).2.1
def pointIn (d : List UInt8) : Bool := (Lib.cut d [46]).2.2
theorem wholeOf_le (d : List UInt8) : (wholeOf d).length ≤ d.length := by
  unfold wholeOf Lib.cut; split <;> simp [List.length_take]; omega
theorem partOf_le (d : List UInt8) : (partOf d).length ≤ d.length := by
  unfold partOf Lib.cut; split <;> simp

/-- May the text behind the sign be a number's? -/
def formB (d : List UInt8) : Bool := !((wholeOf d).length + (partOf d).length == 0) && allDig (wholeOf d) && allDig (partOf d)
/-- The number of a text that is one, whatever its size. -/
def numOf (l : List UInt8) : Int := if signOf l = true then -(thou (wholeOf (behindSign l)) (partOf (behindSign l))) else thou (wholeOf (behindSign l)) (partOf (behindSign l))
def parseV (l : List UInt8) : Int := if 400 < l.length then 0 else if formB (behindSign l) = true then chkV (numOf l) else 0
def parseE (l : List UInt8) : Int := if 400 < l.length then 2 else if formB (behindSign l) = true then chkE (numOf l) else 3
theorem parse_long {l : List UInt8} (h : 400 < l.length) : parseV l = 0 ∧ parseE l = 2 := ⟨if_pos h, if_pos h⟩
theorem parse_form {l : List UInt8} (h : ¬ 400 < l.length) (h' : formB (behindSign l) = false) : parseV l = 0 ∧ parseE l = 3 := by
  unfold parseV parseE; rw [if_neg h, if_neg h, h']; exact ⟨rfl, rfl⟩
theorem parse_num {l : List UInt8} (h : ¬ 400 < l.length) (h' : formB (behindSign l) = true) : parseV l = chkV (numOf l) ∧ parseE l = chkE (numOf l) := by
  unfold parseV parseE; rw [if_neg h, if_neg h, if_pos h', if_pos h']; exact ⟨rfl, rfl⟩
theorem form_zero {d : List UInt8} (h : (wholeOf d).length + (partOf d).length = 0) : formB d = false := by
  unfold formB; rw [beq_iff_eq.2 h]; rfl
theorem form_whole {d : List UInt8} (h : allDig (wholeOf d) = false) : formB d = false := by
  unfold formB; rw [h]; simp
theorem form_part {d : List UInt8} (h : allDig (partOf d) = false) : formB d = false := by
  unfold formB; rw [h]; simp
theorem form_yes {d : List UInt8} (h : (wholeOf d).length + (partOf d).length ≠ 0) (h1 : allDig (wholeOf d) = true) (h2 : allDig (partOf d) = true) : formB d = true := by
  unfold formB; rw [h1, h2, beq_eq_false_iff_ne.2 h]; rfl

/-- The point and the digits of 0 to 999 thousandths. -/
def trimT (t : List UInt8) : List UInt8 := Lib.trimRightB (t.drop 1) 48
def partT (n : Int) : List UInt8 := if n = 0 then [] else 46 :: trimT (Lib.itoa (1000 + n))
/-- A number as a text. -/
def printL (f : Int) : List UInt8 :=
  if saneB f = true then (if f < 0 then 45 :: (Lib.itoa (mag f / 1000) ++ partT (mag f % 1000)) else Lib.itoa (mag f / 1000) ++ partT (mag f % 1000)) else []
theorem print_minus {g : Int} (h : saneB (-g) = true) (hg : 0 < g) : printL (-g) = 45 :: (Lib.itoa (g / 1000) ++ partT (g % 1000)) := by
  rw [printL, if_pos h, if_pos (by omega), show mag (-g) = g by unfold mag; rw [if_pos (by omega)]; omega]
theorem print_plus {f : Int} (h : saneB f = true) (hf : ¬ f < 0) : printL f = Lib.itoa (f / 1000) ++ partT (f % 1000) := by
  rw [printL, if_pos h, if_neg hf, show mag f = f from if_neg hf]
theorem print_none {f : Int} (h : saneB f = false) : printL f = [] := if_neg (by rw [h]; simp)
theorem nDigits_le : ∀ (k u : Nat), u < 10 ^ (k + 1) → Lib.nDigits u ≤ k + 1
  | 0, u, h => by rw [Lib.nDigits_small (by omega)]; exact Nat.le_refl _
  | k + 1, u, h => by
    by_cases hu : u < 10
    · rw [Lib.nDigits_small hu]; omega
    · rw [Lib.nDigits_big hu]
      have := nDigits_le k (u / 10) (by rw [Nat.pow_succ] at h; omega)
      omega
theorem itoa_pos {n : Int} (h0 : 0 ≤ n) : Lib.itoa n = Lib.decDigits n.toNat := if_neg (by omega)
theorem itoa_len {n : Int} (h0 : 0 ≤ n) (h1 : n < 10000000000000000000) : 1 ≤ (Lib.itoa n).length ∧ (Lib.itoa n).length ≤ 20 := by
  rw [itoa_pos h0, Lib.decDigits_length]
  have := nDigits_le 19 n.toNat (by omega)
  have := Lib.nDigits_pos n.toNat
  omega

theorem trim_len (l : List UInt8) (c : UInt8) : (Lib.trimRightB l c).length ≤ l.length := by
  unfold Lib.trimRightB
  rw [List.length_reverse]
  exact Nat.le_trans (List.dropWhile_sublist _).length_le (by simp)
theorem trimT_len (t : List UInt8) (h : 1 ≤ t.length) : (trimT t).length + 1 ≤ t.length := by
  have := trim_len (t.drop 1) 48
  rw [List.length_drop] at this
  unfold trimT; omega
theorem part_len {n : Int} (h0 : 0 ≤ n) (h1 : n ≤ 999) : (partT n).length ≤ 20 := by
  have h := itoa_len (n := 1000 + n) (by omega) (by omega)
  unfold partT
  split
  · simp
  · have := trimT_len (Lib.itoa (1000 + n)) h.1
    rw [List.length_cons]
    omega

end Go.Proofs.Ytakbhdhlcnpejaa.Fx

namespace Go.Proofs.Ytakbhdhlcnpejaa.Fx

theorem add_turn (a b : Int) : addV b a = addV a b ∧ addE b a = addE a b := by
  unfold addV addE
  rw [Int.add_comm b a]
  exact ⟨by simp only [and_comm (a := saneB b = true)], by simp only [and_comm (a := saneB b = true)]⟩
theorem mul_turn (a b : Int) : mulV b a = mulV a b ∧ mulE b a = mulE a b := by
  unfold mulV mulE
  rw [Int.mul_comm b a]
  exact ⟨by simp only [and_comm (a := saneB b = true)], by simp only [and_comm (a := saneB b = true)]⟩
theorem chk_neg (x : Int) : chkV (-x) = -(chkV x) ∧ chkE (-x) = chkE x := by
  unfold chkV chkE
  by_cases h : saneB x = true
  · have h' : saneB (-x) = true := by rw [sane_iff] at *; omega
    rw [if_pos h, if_pos h', if_pos h, if_pos h']; exact ⟨rfl, rfl⟩
  · have h' : ¬ saneB (-x) = true := by rw [sane_iff] at *; omega
    rw [if_neg h, if_neg h', if_neg h, if_neg h']; exact ⟨rfl, rfl⟩
theorem sub_turn (a b : Int) : subV b a = -(subV a b) ∧ subE b a = subE a b := by
  unfold subV subE
  have e : b - a = -(a - b) := by omega
  rw [e, (chk_neg (a - b)).1, (chk_neg (a - b)).2]
  by_cases h : saneB a = true ∧ saneB b = true
  · rw [if_pos h, if_pos h, if_pos h.symm, if_pos h.symm]; exact ⟨rfl, rfl⟩
  · rw [if_neg h, if_neg h, if_neg (fun k => h k.symm), if_neg (fun k => h k.symm)]; exact ⟨rfl, rfl⟩
theorem chkV_bd (x : Int) : -2147483648 ≤ chkV x ∧ chkV x ≤ 2147483648 := by
  unfold chkV
  split
  · rename_i h; exact sane_iff.1 h
  · omega
theorem subV_bd (a b : Int) : -2147483648 ≤ subV a b ∧ subV a b ≤ 2147483648 := by
  unfold subV; split
  · exact chkV_bd _
  · omega
theorem addV_bd (a b : Int) : -2147483648 ≤ addV a b ∧ addV a b ≤ 2147483648 := by
  unfold addV; split
  · exact chkV_bd _
  · omega
theorem chkE_or (x : Int) : chkE x = 0 ∧ saneB x = true ∧ chkV x = x ∨ chkE x = 2 ∧ saneB x = false ∧ chkV x = 0 := by
  unfold chkE chkV
  cases h : saneB x
  · exact .inr ⟨rfl, rfl, rfl⟩
  · exact .inl ⟨rfl, rfl, rfl⟩
theorem addE_or (a b : Int) : addE a b = 0 ∧ saneB a = true ∧ saneB b = true ∧ saneB (a + b) = true ∧ addV a b = a + b ∨ addE a b = 2 := by
  unfold addE addV
  by_cases h : saneB a = true ∧ saneB b = true
  · rw [if_pos h, if_pos h]
    rcases chkE_or (a + b) with ⟨h1, h2, h3⟩ | ⟨h1, _, _⟩
    · exact .inl ⟨h1, h.1, h.2, h2, h3⟩
    · exact .inr h1
  · rw [if_neg h]; exact .inr rfl
/-- What is added and taken away again is gone. -/
theorem add_sub {a b : Int} (ha : saneB a = true) (hb : saneB b = true) (hs : saneB (a + b) = true) : subV (a + b) b = a ∧ subE (a + b) b = 0 := by
  unfold subV subE
  rw [if_pos ⟨hs, hb⟩, if_pos ⟨hs, hb⟩, show a + b - b = a by omega]
  unfold chkV chkE
  rw [if_pos ha, if_pos ha]; exact ⟨rfl, rfl⟩

end Go.Proofs.Ytakbhdhlcnpejaa.Fx

namespace Go.Proofs.Ytakbhdhlcnpejaa.Fx

theorem ofNat_toNat {k : Nat} (h : k < 10) : (UInt8.ofNat (48 + k)).toNat = 48 + k := by
  rw [UInt8.toNat_ofNat']; omega
theorem isDig_ofNat {k : Nat} (h : k < 10) : isDig (UInt8.ofNat (48 + k)) = true := by
  rw [isDig_iff, ofNat_toNat h]; omega

theorem allDig_append {a b : List UInt8} : allDig (a ++ b) = true ↔ allDig a = true ∧ allDig b = true := by
  unfold allDig; rw [List.all_append, Bool.and_eq_true]

theorem dec_all (u : Nat) : allDig (Lib.decDigits u) = true := by
  induction u using Nat.strongRecOn with
  | ind u ih =>
    rw [Lib.decDigits]
    split
    · rename_i h; rw [allDig_cons]; exact ⟨isDig_ofNat h, rfl⟩
    · exact allDig_snoc (ih _ (by omega)) (isDig_ofNat (by omega))
theorem dec_val (u : Nat) (h : u ≤ 21474836480) : grownAll 0 (Lib.decDigits u) = u := by
  induction u using Nat.strongRecOn with
  | ind u ih =>
    rw [Lib.decDigits]
    split
    · rename_i hu
      show grown 0 _ = _
      unfold grown
      rw [ofNat_toNat hu, if_neg (by omega)]
      omega
    · rw [grownAll_snoc, ih _ (by omega) (by omega), ofNat_toNat (by omega)]
      unfold grown
      rw [if_neg (by omega)]
      omega
theorem dec_ne (u : Nat) : Lib.decDigits u ≠ [] := by
  rw [Lib.decDigits]
  split <;> simp

theorem cut_nil : Lib.cut [] [46] = ([], [], false) := rfl
theorem cut_cons (c : UInt8) (l : List UInt8) : Lib.cut (c :: l) [46] = if c = 46 then ([], l, true) else (c :: (Lib.cut l [46]).1, (Lib.cut l [46]).2) := by
  by_cases h : c = 46
  · subst h
    rw [if_pos rfl]
    unfold Lib.cut Lib.index
    simp
  · rw [if_neg h]
    have hp : ([46] : List UInt8).isPrefixOf (c :: l) = false := by
      simp [List.isPrefixOf]; exact fun k => h k.symm
    have hi : Lib.index (c :: l) [46] = if Lib.index l [46] == -1 then -1 else Lib.index l [46] + 1 := by
      show (if ([46] : List UInt8).isPrefixOf (c :: l) then (0 : Int) else _) = _
      rw [hp]; rfl
    have hg := Lib.index_ge l [46]
    unfold Lib.cut
    rw [hi]
    by_cases hm : Lib.index l [46] = -1
    · rw [hm]; rfl
    · have e : (Lib.index l [46] == -1) = false := by rw [beq_eq_false_iff_ne]; exact hm
      rw [e, if_pos (show 0 ≤ Lib.index l [46] by omega)]
      simp only [Bool.false_eq_true, if_false]
      rw [if_pos (by omega), show (Lib.index l [46] + 1).toNat = (Lib.index l [46]).toNat + 1 by omega]
      simp

theorem wholeOf_cons (c : UInt8) (l : List UInt8) : wholeOf (c :: l) = if c = 46 then [] else c :: wholeOf l := by
  unfold wholeOf; rw [cut_cons]; split <;> rfl
theorem partOf_cons (c : UInt8) (l : List UInt8) : partOf (c :: l) = if c = 46 then l else partOf l := by
  unfold partOf; rw [cut_cons]; split <;> rfl
theorem dig_ne_point {c : UInt8} (h : isDig c = true) : c ≠ 46 := by
  rintro rfl; exact absurd h (by decide)

theorem cut_digits {l : List UInt8} (h : allDig l = true) : wholeOf l = l ∧ partOf l = [] := by
  induction l with
  | nil => exact ⟨rfl, rfl⟩
  | cons c r ih =>
    obtain ⟨hc, hr⟩ := allDig_cons.1 h
    rw [wholeOf_cons, partOf_cons, if_neg (dig_ne_point hc), if_neg (dig_ne_point hc), (ih hr).1, (ih hr).2]
    exact ⟨rfl, rfl⟩
theorem cut_point {l p : List UInt8} (h : allDig l = true) : wholeOf (l ++ 46 :: p) = l ∧ partOf (l ++ 46 :: p) = p := by
  induction l with
  | nil => rw [List.nil_append, wholeOf_cons, partOf_cons]; exact ⟨rfl, rfl⟩
  | cons c r ih =>
    obtain ⟨hc, hr⟩ := allDig_cons.1 h
    rw [List.cons_append, wholeOf_cons, partOf_cons, if_neg (dig_ne_point hc), if_neg (dig_ne_point hc), (ih hr).1, (ih hr).2]
    exact ⟨rfl, rfl⟩
theorem sign_digits {l r : List UInt8} (h : allDig l = true) (hn : l ≠ []) : signOf (l ++ r) = false ∧ behindSign (l ++ r) = l ++ r := by
  cases l with
  | nil => exact absurd rfl hn
  | cons c t =>
    have := isDig_iff.1 (allDig_cons.1 h).1
    exact sign_none (by omega) (by omega) _
theorem sign_dash (l : List UInt8) : signOf (45 :: l) = true ∧ behindSign (45 :: l) = l := sign_minus rfl l

theorem trim_split (l : List UInt8) : ∃ t, l = Lib.trimRightB l 48 ++ t ∧ ∀ c ∈ t, c = 48 := by
  refine ⟨(l.reverse.takeWhile (· == 48)).reverse, ?_, ?_⟩
  · unfold Lib.trimRightB
    rw [← List.reverse_append, List.takeWhile_append_dropWhile, List.reverse_reverse]
  · intro c hc
    have := List.mem_reverse.1 hc
    have h : ∀ (m : List UInt8), c ∈ m.takeWhile (· == 48) → c = 48 := by
      intro m
      induction m with
      | nil => intro h; simp at h
      | cons x m ih =>
        intro h
        rw [List.takeWhile_cons] at h
        split at h
        · rename_i hx
          rcases List.mem_cons.1 h with rfl | h
          · simpa using hx
          · exact ih h
        · simp at h
    exact h _ this
theorem dAt_trim (l : List UInt8) (i : Nat) : dAt (Lib.trimRightB l 48) i = dAt l i := by
  obtain ⟨t, h, ht⟩ := trim_split l
  generalize Lib.trimRightB l 48 = m at *
  subst h
  unfold dAt
  by_cases hi : i < m.length
  · rw [List.getElem?_append_left hi]
  · rw [List.getElem?_eq_none (by omega), List.getElem?_append_right (by omega)]
    cases hx : t[i - m.length]? with
    | none => rfl
    | some c => rw [ht c (List.mem_of_getElem? hx)]; rfl
theorem allDig_trim {l : List UInt8} (h : allDig l = true) : allDig (Lib.trimRightB l 48) = true := by
  obtain ⟨t, e, _⟩ := trim_split l
  rw [e] at h
  exact (allDig_append.1 h).1

theorem itoa_four {n : Int} (h0 : 0 ≤ n) (h1 : n ≤ 999) :
    Lib.itoa (1000 + n) = [49, UInt8.ofNat (48 + n.toNat / 100), UInt8.ofNat (48 + n.toNat / 10 % 10), UInt8.ofNat (48 + n.toNat % 10)] := by
  rw [itoa_pos (by omega), show (1000 + n).toNat = 1000 + n.toNat by omega]
  obtain ⟨k, rfl⟩ : ∃ k : Nat, n = k := ⟨n.toNat, by omega⟩
  rw [Int.toNat_natCast]
  rw [Lib.decDigits, dif_neg (by omega), Lib.decDigits, dif_neg (by omega), Lib.decDigits, dif_neg (by omega), Lib.decDigits, dif_pos (by omega)]
  rw [show (1000 + k) / 10 / 10 / 10 = 1 by omega, show (1000 + k) / 10 / 10 % 10 = k / 100 by omega, show (1000 + k) / 10 % 10 = k / 10 % 10 by omega, show (1000 + k) % 10 = k % 10 by omega]
  rfl
theorem trimT_dig {n : Int} (h0 : 0 ≤ n) (h1 : n ≤ 999) :
    allDig (trimT (Lib.itoa (1000 + n))) = true ∧ dAt (trimT (Lib.itoa (1000 + n))) 0 = 48 + n / 100 ∧ dAt (trimT (Lib.itoa (1000 + n))) 1 = 48 + n / 10 % 10 ∧ dAt (trimT (Lib.itoa (1000 + n))) 2 = 48 + n % 10 ∧ dAt (trimT (Lib.itoa (1000 + n))) 3 = 48 := by
  unfold trimT
  rw [itoa_four h0 h1]
  refine ⟨allDig_trim ?_, ?_, ?_, ?_, ?_⟩
  · rw [List.drop_succ_cons, List.drop_zero, allDig_cons, allDig_cons, allDig_cons]
    exact ⟨isDig_ofNat (by omega), isDig_ofNat (by omega), isDig_ofNat (by omega), rfl⟩
  · rw [dAt_trim]; show ((UInt8.ofNat _).toNat : Int) = _; rw [ofNat_toNat (by omega)]; omega
  · rw [dAt_trim]; show ((UInt8.ofNat _).toNat : Int) = _; rw [ofNat_toNat (by omega)]; omega
  · rw [dAt_trim]; show ((UInt8.ofNat _).toNat : Int) = _; rw [ofNat_toNat (by omega)]; omega
  · rw [dAt_trim]; rfl

theorem thou_val {whole part : List UInt8} {u a b c : Int} (hu : grownAll 0 whole = u) (h0 : 0 ≤ u) (h1 : u ≤ 2147483) (ha : dAt part 0 = 48 + a) (hb : dAt part 1 = 48 + b) (hc : dAt part 2 = 48 + c) (h3 : dAt part 3 = 48)
    (a0 : 0 ≤ a) (a1 : a ≤ 9) (b0 : 0 ≤ b) (b1 : b ≤ 9) : thou whole part = 1000 * u + 100 * a + 10 * b + c := by
  have e : thou3 whole part 3 = 1000 * u + 100 * a + 10 * b + c := by
    show grown (grown (grown (grownAll 0 whole) (dAt part 0)) (dAt part 1)) (dAt part 2) = _
    rw [hu, ha, hb, hc]
    unfold grown
    rw [if_neg (show ¬ 2147483648 < u by omega), if_neg (by omega), if_neg (by omega)]
    omega
  unfold thou
  rw [if_neg (by rw [h3]; omega), e]
theorem thou_none {whole : List UInt8} {u : Int} (hu : grownAll 0 whole = u) (h0 : 0 ≤ u) (h1 : u ≤ 2147483) : thou whole [] = 1000 * u := by
  rw [thou_val (a := 0) (b := 0) (c := 0) hu h0 h1 rfl rfl rfl rfl (by omega) (by omega) (by omega) (by omega)]; omega

/-- A text of digits, with or without a part of thousandths, is its number. -/
theorem text_val {l : List UInt8} {u r : Int} (hl : allDig l = true) (hn : l ≠ []) (hu : grownAll 0 l = u) (h0 : 0 ≤ u) (h1 : u ≤ 2147483) (r0 : 0 ≤ r) (r1 : r ≤ 999) :
    formB (l ++ partT r) = true ∧ thou (wholeOf (l ++ partT r)) (partOf (l ++ partT r)) = 1000 * u + r := by
  have hlen : l.length ≠ 0 := fun h => hn (List.length_eq_zero_iff.1 h)
  by_cases hr : r = 0
  · rw [show partT r = [] from if_pos hr, List.append_nil]
    obtain ⟨e1, e2⟩ := cut_digits hl
    refine ⟨form_yes (by rw [e1]; omega) (by rw [e1]; exact hl) (by rw [e2]; rfl), ?_⟩
    rw [e1, e2, thou_none hu h0 h1]; omega
  · rw [show partT r = 46 :: trimT (Lib.itoa (1000 + r)) from if_neg hr]
    obtain ⟨e1, e2⟩ := cut_point (p := trimT (Lib.itoa (1000 + r))) hl
    obtain ⟨d, da, db, dc, dd⟩ := trimT_dig r0 r1
    refine ⟨form_yes (by rw [e1]; omega) (by rw [e1]; exact hl) (by rw [e2]; exact d), ?_⟩
    rw [e1, e2, thou_val hu h0 h1 da db dc dd (by omega) (by omega) (by omega) (by omega)]; omega

theorem chk_sane {x : Int} (h : saneB x = true) : chkV x = x ∧ chkE x = 0 := ⟨if_pos h, if_pos h⟩
theorem itoa_facts {u : Int} (h0 : 0 ≤ u) (h1 : u ≤ 2147483) : allDig (Lib.itoa u) = true ∧ Lib.itoa u ≠ [] ∧ grownAll 0 (Lib.itoa u) = u ∧ (Lib.itoa u).length ≤ 7 := by
  rw [itoa_pos h0]
  refine ⟨dec_all _, dec_ne _, ?_, ?_⟩
  · rw [dec_val _ (by omega)]; omega
  · rw [Lib.decDigits_length]; exact nDigits_le 6 _ (by omega)
theorem partT_len {r : Int} (r0 : 0 ≤ r) (r1 : r ≤ 999) : (partT r).length ≤ 4 := by
  unfold partT
  split
  · simp
  · have := trimT_len (Lib.itoa (1000 + r)) (by rw [itoa_four r0 r1]; simp)
    have e : (Lib.itoa (1000 + r)).length = 4 := by rw [itoa_four r0 r1]; rfl
    rw [List.length_cons]; omega

/-- There and back. -/
theorem print_back {f : Int} (h : saneB f = true) : parseV (printL f) = f ∧ parseE (printL f) = 0 ∧ (printL f).length ≤ 12 := by
  obtain ⟨b0, b1⟩ := sane_iff.1 h
  by_cases hn : f < 0
  · obtain ⟨g, rfl⟩ : ∃ g, f = -g := ⟨-f, by omega⟩
    obtain ⟨i1, i2, i3, i4⟩ := itoa_facts (u := g / 1000) (by omega) (by omega)
    obtain ⟨t1, t2⟩ := text_val (r := g % 1000) i1 i2 i3 (by omega) (by omega) (by omega) (by omega)
    have hl := partT_len (r := g % 1000) (by omega) (by omega)
    have e := print_minus h (by omega)
    have len : (printL (-g)).length ≤ 12 := by rw [e, List.length_cons, List.length_append]; omega
    obtain ⟨s1, s2⟩ := sign_dash (Lib.itoa (g / 1000) ++ partT (g % 1000))
    have hnum : numOf (printL (-g)) = -g := by
      unfold numOf
      rw [e, s1, s2, if_pos rfl, t2]; omega
    obtain ⟨p1, p2⟩ := parse_num (l := printL (-g)) (by omega) (by rw [e, s2]; exact t1)
    rw [p1, p2, hnum, (chk_sane h).1, (chk_sane h).2]
    exact ⟨rfl, rfl, len⟩
  · obtain ⟨i1, i2, i3, i4⟩ := itoa_facts (u := f / 1000) (by omega) (by omega)
    obtain ⟨t1, t2⟩ := text_val (r := f % 1000) i1 i2 i3 (by omega) (by omega) (by omega) (by omega)
    have hl := partT_len (r := f % 1000) (by omega) (by omega)
    have e := print_plus h hn
    have len : (printL f).length ≤ 12 := by rw [e, List.length_append]; omega
    obtain ⟨s1, s2⟩ := sign_digits (r := partT (f % 1000)) i1 i2
    have hnum : numOf (printL f) = f := by
      unfold numOf
      rw [e, s1, s2, if_neg (by simp), t2]; omega
    obtain ⟨p1, p2⟩ := parse_num (l := printL f) (by omega) (by rw [e, s2]; exact t1)
    rw [p1, p2, hnum, (chk_sane h).1, (chk_sane h).2]
    exact ⟨rfl, rfl, len⟩
/-- A number that is not below 0, with one more 0 ahead. -/
theorem zero_back {f : Int} (h : saneB f = true) (hn : 0 ≤ f) : parseV (48 :: printL f) = f ∧ parseE (48 :: printL f) = 0 := by
  obtain ⟨b0, b1⟩ := sane_iff.1 h
  obtain ⟨i1, i2, i3, i4⟩ := itoa_facts (u := f / 1000) (by omega) (by omega)
  have j1 : allDig (48 :: Lib.itoa (f / 1000)) = true := allDig_cons.2 ⟨by decide, i1⟩
  have j3 : grownAll 0 (48 :: Lib.itoa (f / 1000)) = f / 1000 := i3
  obtain ⟨t1, t2⟩ := text_val (r := f % 1000) j1 (by simp) j3 (by omega) (by omega) (by omega) (by omega)
  have hl := partT_len (r := f % 1000) (by omega) (by omega)
  have e : 48 :: printL f = (48 :: Lib.itoa (f / 1000)) ++ partT (f % 1000) := by rw [print_plus h (by omega)]; rfl
  have len : (48 :: printL f).length ≤ 13 := by rw [e, List.length_append, List.length_cons]; omega
  obtain ⟨s1, s2⟩ := sign_digits (r := partT (f % 1000)) j1 (by simp)
  have hnum : numOf (48 :: printL f) = f := by
    unfold numOf
    rw [e, s1, s2, if_neg (by simp), t2]; omega
  obtain ⟨p1, p2⟩ := parse_num (l := 48 :: printL f) (by omega) (by rw [e, s2]; exact t1)
  rw [p1, p2, hnum, (chk_sane h).1, (chk_sane h).2]
  exact ⟨rfl, rfl⟩
/-- A whole number's text with a point and a 0 behind. -/
theorem whole_back {x : Int} (h0 : 0 ≤ x) (h1 : x ≤ 2147483) : parseV (printL (1000 * x) ++ [46, 48]) = 1000 * x ∧ parseE (printL (1000 * x) ++ [46, 48]) = 0 := by
  have h : saneB (1000 * x) = true := by rw [sane_iff]; omega
  obtain ⟨i1, i2, i3, i4⟩ := itoa_facts h0 h1
  have e : printL (1000 * x) = Lib.itoa x := by
    rw [print_plus h (by omega), show 1000 * x / 1000 = x by omega, show 1000 * x % 1000 = 0 by omega, show partT 0 = [] from rfl, List.append_nil]
  rw [e]
  obtain ⟨e1, e2⟩ := cut_point (p := [48]) i1
  obtain ⟨s1, s2⟩ := sign_digits (r := [46, 48]) i1 i2
  have hlen : (Lib.itoa x).length ≠ 0 := fun h => i2 (List.length_eq_zero_iff.1 h)
  have hnum : numOf (Lib.itoa x ++ [46, 48]) = 1000 * x := by
    unfold numOf
    rw [s1, s2, if_neg (by simp), e1, e2, thou_val (a := 0) (b := 0) (c := 0) i3 h0 h1 rfl rfl rfl rfl (by omega) (by omega) (by omega) (by omega)]; omega
  obtain ⟨p1, p2⟩ := parse_num (l := Lib.itoa x ++ [46, 48]) (by rw [List.length_append]; simp; omega) (by rw [s2]; exact form_yes (by rw [e1]; omega) (by rw [e1]; exact i1) (by rw [e2]; rfl))
  rw [p1, p2, hnum, (chk_sane h).1, (chk_sane h).2]
  exact ⟨rfl, rfl⟩

end Go.Proofs.Ytakbhdhlcnpejaa.Fx
