/-
  Plain numbers of package fix: what each of its functions answers, as functions on integers, and small facts on them. Nothing of the program is named here.
  What package fix's reckoning functions answer: Sane, checked, magnitude, rounded.
  What package fix's Add, Sub, Mul, Div and Int answer, at all numbers.
  What package fix's functions on texts answer: digitAt, grown, allDigits, thousandths, cutSign.
  'Fine w': the library's two variables that the texts' functions read are as they are laid.
  What package fix's Parse answers, at every text.
-/
import Derived.Lib.ItoaNum
import Derived.Lib.IndexMore
import Derived.Lib.TrimByte
import Derived.Test.YtdfgbdonnpbfcaaBase
import Derived.WalkKit
import Derived.WalkSpells
import Derived.WalkLawsBesides
import Derived.BigQuiet
import Derived.Deep.QuietTactic
import Derived.Lib.Hide
import Derived.Lib.LaidTab
import Derived.Test.YtdfgbdonnpbfcaaShelf
namespace Go.Proofs.Ytdfgbdonnpbfcaa.Fx

theorem getD_at (zs : List Int) (k : Nat) (h : k < zs.length) : zs.getD k 0 = zs[k] := by simp [List.getD, h]

/-- May a number be? -/
def saneB (x : Int) : Bool := decide (-2147483648 ≤ x) && decide (x ≤ 2147483648)
theorem sane_iff {x : Int} : saneB x = true ↔ -2147483648 ≤ x ∧ x ≤ 2147483648 := by
  unfold saneB; simp
theorem sane_not {x : Int} : saneB x = false ↔ ¬ (-2147483648 ≤ x ∧ x ≤ 2147483648) := by
  rw [← sane_iff]; simp
theorem sane_lo {x : Int} (h : saneB x = true) : -2147483648 ≤ x := (sane_iff.1 h).1
theorem sane_hi {x : Int} (h : saneB x = true) : x ≤ 2147483648 := (sane_iff.1 h).2

/-- How far from 0. -/
def mag (x : Int) : Int := if x < 0 then -x else x

/-- A quotient, rounded, half away from 0; the second number is not 0. -/
def rnd (n d : Int) : Int :=
  if 2 * mag (n.tmod d) < mag d then n.tdiv d
  else if decide (n < 0) != decide (d < 0) then n.tdiv d - 1 else n.tdiv d + 1

theorem tdiv_bd (n d : Int) : -(mag n) ≤ n.tdiv d ∧ n.tdiv d ≤ mag n := by
  have h := Int.natAbs_tdiv_le_natAbs n d
  unfold mag
  split <;> omega
theorem tmod_bd (n d : Int) (hd : d ≠ 0) : -(mag d) < n.tmod d ∧ n.tmod d < mag d := by
  have h : (n.tmod d).natAbs < d.natAbs := by rw [Int.natAbs_tmod]; exact Nat.mod_lt _ (by omega)
  unfold mag
  split <;> omega
theorem mag_nonneg (x : Int) : 0 ≤ mag x := by unfold mag; split <;> omega
theorem mag_le {x b : Int} (h : -b ≤ x) (h' : x ≤ b) : mag x ≤ b := by unfold mag; split <;> omega

theorem rnd_low {n d : Int} (h : 2 * mag (n.tmod d) < mag d) : rnd n d = n.tdiv d := if_pos h
theorem rnd_less {n d : Int} (h : mag d ≤ 2 * mag (n.tmod d)) (hs : n < 0 ∧ 0 ≤ d ∨ 0 ≤ n ∧ d < 0) : rnd n d = n.tdiv d - 1 := by
  have e : (decide (n < 0) != decide (d < 0)) = true := by
    rcases hs with ⟨a, b⟩ | ⟨a, b⟩
    · rw [decide_eq_true a, decide_eq_false (show ¬ d < 0 by omega)]; rfl
    · rw [decide_eq_true b, decide_eq_false (show ¬ n < 0 by omega)]; rfl
  rw [rnd, if_neg (by omega), if_pos e]
theorem rnd_more {n d : Int} (h : mag d ≤ 2 * mag (n.tmod d)) (hs : n < 0 ∧ d < 0 ∨ 0 ≤ n ∧ 0 ≤ d) : rnd n d = n.tdiv d + 1 := by
  have e : ¬ (decide (n < 0) != decide (d < 0)) = true := by
    rcases hs with ⟨a, b⟩ | ⟨a, b⟩
    · rw [decide_eq_true a, decide_eq_true b]; simp
    · rw [decide_eq_false (show ¬ n < 0 by omega), decide_eq_false (show ¬ d < 0 by omega)]; simp
  rw [rnd, if_neg (by omega), if_neg e]

/-- A number, if it may be; and the error's number. -/
def chkV (x : Int) : Int := if saneB x = true then x else 0
def chkE (x : Int) : Int := if saneB x = true then 0 else 2

def addV (a b : Int) : Int := if saneB a = true ∧ saneB b = true then chkV (a + b) else 0
def addE (a b : Int) : Int := if saneB a = true ∧ saneB b = true then chkE (a + b) else 2
def subV (a b : Int) : Int := if saneB a = true ∧ saneB b = true then chkV (a - b) else 0
def subE (a b : Int) : Int := if saneB a = true ∧ saneB b = true then chkE (a - b) else 2
def mulV (a b : Int) : Int := if saneB a = true ∧ saneB b = true then chkV (rnd (a * b) 1000) else 0
def mulE (a b : Int) : Int := if saneB a = true ∧ saneB b = true then chkE (rnd (a * b) 1000) else 2
def divV (a b : Int) : Int := if saneB a = true ∧ saneB b = true then (if b = 0 then 0 else chkV (rnd (a * 1000) b)) else 0
def divE (a b : Int) : Int := if saneB a = true ∧ saneB b = true then (if b = 0 then 1 else chkE (rnd (a * 1000) b)) else 2

theorem mul_bd {a b : Int} (ha : saneB a = true) (hb : saneB b = true) : -4611686018427387904 ≤ a * b ∧ a * b ≤ 4611686018427387904 := by
  obtain ⟨a0, a1⟩ := sane_iff.1 ha
  obtain ⟨b0, b1⟩ := sane_iff.1 hb
  have h : (a * b).natAbs ≤ 2147483648 * 2147483648 := by
    rw [Int.natAbs_mul]; exact Nat.mul_le_mul (by omega) (by omega)
  omega

/-- A whole number. -/
def intV (n : Int) : Int := if -2147483 ≤ n ∧ n ≤ 2147483 then n * 1000 else 0
def intE (n : Int) : Int := if -2147483 ≤ n ∧ n ≤ 2147483 then 0 else 2
theorem int_in {n : Int} (h : -2147483 ≤ n ∧ n ≤ 2147483) : intV n = n * 1000 ∧ intE n = 0 := ⟨if_pos h, if_pos h⟩
theorem int_out {n : Int} (h : ¬ (-2147483 ≤ n ∧ n ≤ 2147483)) : intV n = 0 ∧ intE n = 2 := ⟨if_neg h, if_neg h⟩

/-- A digit. -/
def isDig (c : UInt8) : Bool := decide (48 ≤ c.toNat) && decide (c.toNat ≤ 57)
theorem isDig_iff {c : UInt8} : isDig c = true ↔ 48 ≤ c.toNat ∧ c.toNat ≤ 57 := by unfold isDig; simp

/-- Digits alone. -/
def allDig (l : List UInt8) : Bool := l.all isDig
theorem allDig_snoc {l : List UInt8} {c : UInt8} (h : allDig l = true) (hc : isDig c = true) : allDig (l ++ [c]) = true := by
  unfold allDig at *; simp [h, hc]
theorem allDig_no {l : List UInt8} {c : UInt8} (hm : c ∈ l) (hc : isDig c = false) : allDig l = false :=
  List.all_eq_false.2 ⟨c, hm, by rw [hc]; simp⟩
theorem allDig_mem {l : List UInt8} {c : UInt8} (h : allDig l = true) (hm : c ∈ l) : isDig c = true := List.all_eq_true.1 h c hm
theorem allDig_cons {c : UInt8} {r : List UInt8} : allDig (c :: r) = true ↔ isDig c = true ∧ allDig r = true := by
  unfold allDig; rw [List.all_cons, Bool.and_eq_true]

theorem allDig_take {l : List UInt8} (h : allDig l = true) (k : Nat) : allDig (l.take k) = true :=
  List.all_eq_true.2 fun _ hc => allDig_mem h (List.mem_of_mem_take hc)

/-- A number with one more digit; one that is too great already stays. -/
def grown (n c : Int) : Int := if 2147483648 < n then n else 10 * n + (c - 48)
theorem grown_bd {n c : Int} (h0 : 0 ≤ n) (h1 : n ≤ 30000000000) (hc : 48 ≤ c) (hc' : c ≤ 57) : 0 ≤ grown n c ∧ grown n c ≤ 30000000000 := by
  unfold grown; split <;> omega

/-- A digit of a text, or 48 behind its end. -/
def dAt (l : List UInt8) (i : Nat) : Int := ((l[i]?).getD 48).toNat
theorem dAt_dig {l : List UInt8} (h : allDig l = true) (i : Nat) : 48 ≤ dAt l i ∧ dAt l i ≤ 57 := by
  unfold dAt
  by_cases hi : i < l.length
  · have := isDig_iff.1 (allDig_mem h (List.getElem_mem hi))
    rw [List.getElem?_eq_getElem hi, Option.getD_some]; omega
  · rw [List.getElem?_eq_none (by omega), Option.getD_none]; decide

/-- The digits of a text, one behind the other. -/
def grownAll (n : Int) (l : List UInt8) : Int := l.foldl (fun n c => grown n c.toNat) n
theorem grownAll_snoc (n : Int) (l : List UInt8) (c : UInt8) : grownAll n (l ++ [c]) = grown (grownAll n l) c.toNat := by
  simp [grownAll]
theorem grownAll_bd {l : List UInt8} (h : allDig l = true) : ∀ {n : Int}, 0 ≤ n → n ≤ 30000000000 → 0 ≤ grownAll n l ∧ grownAll n l ≤ 30000000000 := by
  induction l with
  | nil => intro n h0 h1; exact ⟨h0, h1⟩
  | cons c r ih =>
    intro n h0 h1
    rw [allDig_cons] at h
    have hc := isDig_iff.1 h.1
    have := grown_bd (c := c.toNat) h0 h1 (by omega) (by omega)
    exact ih h.2 this.1 this.2

/-- The number of the digits ahead of the point and behind it, rounded. -/
def thou3 (whole part : List UInt8) : Nat → Int
  | 0 => grownAll 0 whole
  | k + 1 => grown (thou3 whole part k) (dAt part k)
def thou (whole part : List UInt8) : Int := if 53 ≤ dAt part 3 then thou3 whole part 3 + 1 else thou3 whole part 3
theorem thou3_bd {whole part : List UInt8} (hw : allDig whole = true) (hp : allDig part = true) (k : Nat) : 0 ≤ thou3 whole part k ∧ thou3 whole part k ≤ 30000000000 := by
  induction k with
  | zero => exact grownAll_bd hw (by omega) (by omega)
  | succ k ih => exact grown_bd ih.1 ih.2 (dAt_dig hp k).1 (dAt_dig hp k).2
theorem thou_bd {whole part : List UInt8} (hw : allDig whole = true) (hp : allDig part = true) : 0 ≤ thou whole part ∧ thou whole part ≤ 30000000001 := by
  have := thou3_bd hw hp 3
  unfold thou; split <;> omega

/-- A minus ahead? And what is behind the sign. -/
def signOf : List UInt8 → Bool
  | c :: _ => c == 45
  | [] => false
def behindSign : List UInt8 → List UInt8
  | c :: r => if c == 43 || c == 45 then r else c :: r
  | [] => []

theorem sign_plus {c : UInt8} (h : c.toNat = 43) (r : List UInt8) : signOf (c :: r) = false ∧ behindSign (c :: r) = r := by
  obtain rfl : c = 43 := UInt8.toNat_inj.1 h
  exact ⟨rfl, rfl⟩
theorem sign_minus {c : UInt8} (h : c.toNat = 45) (r : List UInt8) : signOf (c :: r) = true ∧ behindSign (c :: r) = r := by
  obtain rfl : c = 45 := UInt8.toNat_inj.1 h
  exact ⟨rfl, rfl⟩
theorem sign_none {c : UInt8} (h : c.toNat ≠ 43) (h' : c.toNat ≠ 45) (r : List UInt8) : signOf (c :: r) = false ∧ behindSign (c :: r) = c :: r := by
  have a : (c == 43) = false := by rw [beq_eq_false_iff_ne]; rintro rfl; exact h rfl
  have b : (c == 45) = false := by rw [beq_eq_false_iff_ne]; rintro rfl; exact h' rfl
  exact ⟨b, by simp [behindSign, a, b]⟩

theorem behindSign_le (l : List UInt8) : (behindSign l).length ≤ l.length := by
  cases l with
  | nil => exact Nat.le_refl _
  | cons c r =>
    show (if c == 43 || c == 45 then r else c :: r).length ≤ _
    by_cases h : (c == 43 || c == 45) = true
    · rw [if_pos h]; exact Nat.le_succ _
    · rw [if_neg h]; exact Nat.le_refl _

/-- What stands ahead of the first point and behind it. -/
def wholeOf (d : List UInt8) : List UInt8 := (Lib.cut d [46]).1
def partOf (d : List UInt8) : List UInt8 := (Lib.cut d [46]).2.1
def pointIn (d : List UInt8) : Bool := (Lib.cut d [46]).2.2
theorem wholeOf_le (d : List UInt8) : (wholeOf d).length ≤ d.length := by
  unfold wholeOf Lib.cut; split <;> simp [List.length_take]; omega
theorem partOf_le (d : List UInt8) : (partOf d).length ≤ d.length := by
  unfold partOf Lib.cut; split <;> simp

/-- May the text behind the sign be a number's? -/
def formB (d : List UInt8) : Bool := !((wholeOf d).length + (partOf d).length == 0) && allDig (wholeOf d) && allDig (partOf d)
/-- The number of a text that is one, whatever its size. -/
def numOf (l : List UInt8) : Int := if signOf l = true then -(thou (wholeOf (behindSign l)) (partOf (behindSign l))) else thou (wholeOf (behindSign l)) (partOf (behindSign l))
def parseV (l : List UInt8) : Int := if 400 < l.length then 0 else if formB (behindSign l) = true then chkV (numOf l) else 0
def parseE (l : List UInt8) : Int := if 400 < l.length then 2 else if formB (behindSign l) = true then chkE (numOf l) else 3
theorem parse_long {l : List UInt8} (h : 400 < l.length) : parseV l = 0 ∧ parseE l = 2 := ⟨if_pos h, if_pos h⟩
theorem parse_form {l : List UInt8} (h : ¬ 400 < l.length) (h' : formB (behindSign l) = false) : parseV l = 0 ∧ parseE l = 3 := by
  unfold parseV parseE; rw [if_neg h, if_neg h, h']; exact ⟨rfl, rfl⟩
theorem parse_num {l : List UInt8} (h : ¬ 400 < l.length) (h' : formB (behindSign l) = true) : parseV l = chkV (numOf l) ∧ parseE l = chkE (numOf l) := by
  unfold parseV parseE; rw [if_neg h, if_neg h, if_pos h', if_pos h']; exact ⟨rfl, rfl⟩
theorem form_zero {d : List UInt8} (h : (wholeOf d).length + (partOf d).length = 0) : formB d = false := by
  unfold formB; rw [beq_iff_eq.2 h]; rfl
theorem form_whole {d : List UInt8} (h : allDig (wholeOf d) = false) : formB d = false := by
  unfold formB; rw [h]; simp
theorem form_part {d : List UInt8} (h : allDig (partOf d) = false) : formB d = false := by
  unfold formB; rw [h]; simp
theorem form_yes {d : List UInt8} (h : (wholeOf d).length + (partOf d).length ≠ 0) (h1 : allDig (wholeOf d) = true) (h2 : allDig (partOf d) = true) : formB d = true := by
  unfold formB; rw [h1, h2, beq_eq_false_iff_ne.2 h]; rfl

/-- The point and the digits of 0 to 999 thousandths. -/
def trimT (t : List UInt8) : List UInt8 := Lib.trimRightB (t.drop 1) 48
def partT (n : Int) : List UInt8 := if n = 0 then [] else 46 :: trimT (Lib.itoa (1000 + n))
/-- A number as a text. -/
def printL (f : Int) : List UInt8 :=
  if saneB f = true then (if f < 0 then 45 :: (Lib.itoa (mag f / 1000) ++ partT (mag f % 1000)) else Lib.itoa (mag f / 1000) ++ partT (mag f % 1000)) else []
theorem print_minus {g : Int} (h : saneB (-g) = true) (hg : 0 < g) : printL (-g) = 45 :: (Lib.itoa (g / 1000) ++ partT (g % 1000)) := by
  rw [printL, if_pos h, if_pos (by omega), show mag (-g) = g by unfold mag; rw [if_pos (by omega)]; omega]
theorem print_plus {f : Int} (h : saneB f = true) (hf : ¬ f < 0) : printL f = Lib.itoa (f / 1000) ++ partT (f % 1000) := by
  rw [printL, if_pos h, if_neg hf, show mag f = f from if_neg hf]
theorem print_none {f : Int} (h : saneB f = false) : printL f = [] := if_neg (by rw [h]; simp)
theorem nDigits_le : ∀ (k u : Nat), u < 10 ^ (k + 1) → Lib.nDigits u ≤ k + 1
  | 0, u, h => by rw [Lib.nDigits_small (by omega)]; exact Nat.le_refl _
  | k + 1, u, h => by
    by_cases hu : u < 10
    · rw [Lib.nDigits_small hu]; omega
    · rw [Lib.nDigits_big hu]
      have := nDigits_le k (u / 10) (by rw [Nat.pow_succ] at h; omega)
      omega
theorem itoa_pos {n : Int} (h0 : 0 ≤ n) : Lib.itoa n = Lib.decDigits n.toNat := if_neg (by omega)
theorem itoa_len {n : Int} (h0 : 0 ≤ n) (h1 : n < 10000000000000000000) : 1 ≤ (Lib.itoa n).length ∧ (Lib.itoa n).length ≤ 20 := by
  rw [itoa_pos h0, Lib.decDigits_length]
  have := nDigits_le 19 n.toNat (by omega)
  have := Lib.nDigits_pos n.toNat
  omega

theorem trim_len (l : List UInt8) (c : UInt8) : (Lib.trimRightB l c).length ≤ l.length := by
  unfold Lib.trimRightB
  rw [List.length_reverse]
  exact Nat.le_trans (List.dropWhile_sublist _).length_le (by simp)
theorem trimT_len (t : List UInt8) (h : 1 ≤ t.length) : (trimT t).length + 1 ≤ t.length := by
  have := trim_len (t.drop 1) 48
  rw [List.length_drop] at this
  unfold trimT; omega
theorem part_len {n : Int} (h0 : 0 ≤ n) (h1 : n ≤ 999) : (partT n).length ≤ 20 := by
  have h := itoa_len (n := 1000 + n) (by omega) (by omega)
  unfold partT
  split
  · simp
  · have := trimT_len (Lib.itoa (1000 + n)) h.1
    rw [List.length_cons]
    omega

end Go.Proofs.Ytdfgbdonnpbfcaa.Fx

namespace Go.Proofs.Ytdfgbdonnpbfcaa
open Go.RowKit

theorem ret_int {k : IntKind} {a b : Int} (h : a = b) : Ending.returned (.int k a) = .returned (.int k b) := by rw [h]
theorem ret_bool {a b : Bool} (h : a = b) : Ending.returned (.bool a) = .returned (.bool b) := by rw [h]
theorem ret_ints {a b c d : Int} (h : a = b) (h' : c = d) : Ending.returned (.tuple #[.int .i64 a, .int .i64 c]) = .returned (.tuple #[.int .i64 b, .int .i64 d]) := by rw [h, h']

set_option maxHeartbeats 400000 in
/-- Sane, at numbers that lie in memory one behind the other. -/
theorem sane_any (zs : List Int) (b : Nat) (w : World) (hl : zs.length ≤ 9223372036854775807) (hc : ∀ i, i < zs.length → w.cell? ⟨b, i, none⟩ = some (.int .i64 (zs.getD i 0))) :
    Calls Try.prog 85 #[.slice (some ⟨b, 0, none⟩) zs.length zs.length] w fun e w' => e = .returned (.bool (zs.all Fx.saneB)) ∧ w = w' := by
  have HC := Lib.hid hc
  clear hc
  go_enter Try.func85, Try.ntmps85
  go_wp2
  go_loop [7] (fun i => ∃ k : Nat, k ≤ zs.length ∧ i = .int .i64 k ∧ Hid ((zs.take k).all Fx.saneB = true)) (fun i => zs.length - (intOf i).toNat)
  case atStart => exact ⟨0, Nat.zero_le _, rfl, Lib.hid rfl⟩
  case round =>
    obtain ⟨k, hk, rfl, hs⟩ := hrel
    by_cases hlt : k < zs.length
    · have hcell := HC.out k hlt
      have HE := Lib.hid (show zs.take (k + 1) = zs.take k ++ [zs.getD k 0] by
        rw [List.take_succ_eq_append_getElem hlt, Fx.getD_at _ _ hlt])
      have HM := Lib.hid (show zs.getD k 0 ∈ zs by rw [Fx.getD_at _ _ hlt]; exact List.getElem_mem hlt)
      generalize zs.getD k 0 = x at *
      by_cases h1 : x < -2147483648
      · go_wp2
        go_ret
        refine ⟨ret_bool ?_, rfl⟩
        symm
        rw [List.all_eq_false]
        exact ⟨x, HM.out, by rw [Fx.sane_iff]; omega⟩
      · by_cases h2 : 2147483648 < x
        · go_wp2
          go_ret
          refine ⟨ret_bool ?_, rfl⟩
          symm
          rw [List.all_eq_false]
          exact ⟨x, HM.out, by rw [Fx.sane_iff]; omega⟩
        · go_wp2
          go_round
          case rel => exact ⟨k + 1, by omega, by go_num, Lib.hid (by rw [HE.out, List.all_append, hs.out]; simp [Fx.sane_iff]; omega)⟩
          case measure => simp [intOf]; omega
    · go_wp2
      go_ret
      refine ⟨ret_bool ?_, rfl⟩
      have := hs.out
      rw [List.take_of_length_le (by omega)] at this
      exact this.symm

theorem sane_1 (x : Int) (b : Nat) (w : World) (hc : w.cell? ⟨b, 0, none⟩ = some (.int .i64 x)) :
    Calls Try.prog 85 #[.slice (some ⟨b, 0, none⟩) 1 1] w fun e w' => e = .returned (.bool (Fx.saneB x)) ∧ w = w' := by
  have h := sane_any [x] b w (by simp) (by intro i hi; obtain rfl : i = 0 := by simpa using hi
                                           exact hc)
  simpa using h
theorem sane_2 (x y : Int) (b : Nat) (w : World) (hc : w.cell? ⟨b, 0, none⟩ = some (.int .i64 x)) (hd : w.cell? ⟨b, 1, none⟩ = some (.int .i64 y)) :
    Calls Try.prog 85 #[.slice (some ⟨b, 0, none⟩) 2 2] w fun e w' => e = .returned (.bool (Fx.saneB x && Fx.saneB y)) ∧ w = w' := by
  have h := sane_any [x, y] b w (by simp) (by
    intro i hi
    have : i = 0 ∨ i = 1 := by simp at hi; omega
    rcases this with rfl | rfl
    · exact hc
    · exact hd)
  simpa using h

theorem sane_new1 (x : Int) (w : World) :
    Calls Try.prog 85 #[.slice (some ⟨w.heap.size, 0, none⟩) 1 1] (w.alloc (.cells #[.int .i64 x] 22)) fun e w' => e = .returned (.bool (Fx.saneB x)) ∧ w.alloc (.cells #[.int .i64 x] 22) = w' :=
  sane_1 x _ _ (by simp [go_sem])
theorem sane_new2 (x y : Int) (w : World) :
    Calls Try.prog 85 #[.slice (some ⟨w.heap.size, 0, none⟩) 2 2] (w.alloc (.cells #[.int .i64 x, .int .i64 y] 22)) fun e w' => e = .returned (.bool (Fx.saneB x && Fx.saneB y)) ∧ w.alloc (.cells #[.int .i64 x, .int .i64 y] 22) = w' :=
  sane_2 x y _ _ (by simp [go_sem]) (by simp [go_sem])

set_option maxHeartbeats 400000 in
theorem checked_any (x : Int) (w : World) :
    Calls Try.prog 79 #[.int .i64 x] w fun e w' => e = .returned (.tuple #[.int .i64 (Fx.chkV x), .int .i64 (Fx.chkE x)]) ∧ Kept w w' := by
  by_cases h : Fx.saneB x = true
  · have HV := Lib.hid (show Fx.chkV x = x from if_pos h)
    have HE := Lib.hid (show Fx.chkE x = 0 from if_pos h)
    go_enter Try.func79, Try.ntmps79
    go_wp2_with (go_at_call 85; refine (sane_new1 x _).mono ?_; rintro e w' ⟨rfl, rfl⟩)
    go_ret2
    exact ⟨ret_ints HV.out.symm HE.out.symm, (Kept.refl _).alloc _ _⟩
  · have HV := Lib.hid (show Fx.chkV x = 0 from if_neg h)
    have HE := Lib.hid (show Fx.chkE x = 2 from if_neg h)
    have h' : Fx.saneB x = false := by simpa using h
    clear h
    go_enter Try.func79, Try.ntmps79
    go_wp2_with (go_at_call 85; refine (sane_new1 x _).mono ?_; rintro e w' ⟨rfl, rfl⟩)
    go_ret2
    exact ⟨ret_ints HV.out.symm HE.out.symm, (Kept.refl _).alloc _ _⟩

end Go.Proofs.Ytdfgbdonnpbfcaa

namespace Go.Proofs.Ytdfgbdonnpbfcaa
open Go.RowKit

set_option maxHeartbeats 400000 in
theorem Int_any (n : Int) (w : World) (hn : -9223372036854775808 ≤ n) (hn' : n ≤ 9223372036854775807) :
    Calls Try.prog 24 #[.int .i64 n] w fun e w' => e = .returned (.tuple #[.int .i64 (Fx.intV n), .int .i64 (Fx.intE n)]) ∧ Kept w w' := by
  by_cases h1 : n < -2147483
  · have HV := Lib.hid (Fx.int_out (n := n) (by omega))
    go_enter Try.func24, Try.ntmps24
    go_wp2
    go_ret2
    exact ⟨ret_ints HV.out.1.symm HV.out.2.symm, Kept.refl _⟩
  · by_cases h2 : 2147483 < n
    · have HV := Lib.hid (Fx.int_out (n := n) (by omega))
      go_enter Try.func24, Try.ntmps24
      go_wp2
      go_ret2
      exact ⟨ret_ints HV.out.1.symm HV.out.2.symm, Kept.refl _⟩
    · have HV := Lib.hid (Fx.int_in (n := n) (by omega))
      go_enter Try.func24, Try.ntmps24
      go_wp2
      go_ret2
      exact ⟨ret_ints HV.out.1.symm HV.out.2.symm, Kept.refl _⟩

end Go.Proofs.Ytdfgbdonnpbfcaa

namespace Go.Proofs.Ytdfgbdonnpbfcaa
open Go.RowKit

set_option maxHeartbeats 400000 in
theorem grown_any (n c : Int) (w : World) (h0 : 0 ≤ n) (h1 : n ≤ 30000000000) (hc : 48 ≤ c) (hc' : c ≤ 57) :
    Calls Try.prog 83 #[.int .i64 n, .int .u8 c] w fun e w' => e = .returned (.int .i64 (Fx.grown n c)) ∧ w = w' := by
  by_cases h : 2147483648 < n
  · have HV := Lib.hid (show Fx.grown n c = n from if_pos h)
    go_enter Try.func83, Try.ntmps83
    go_wp2
    go_ret
    exact ⟨ret_int HV.out.symm, rfl⟩
  · have HV := Lib.hid (show Fx.grown n c = 10 * n + (c - 48) from if_neg h)
    go_enter Try.func83, Try.ntmps83
    go_wp2
    go_ret
    exact ⟨ret_int HV.out.symm, rfl⟩

set_option maxHeartbeats 400000 in
theorem digitAt_any (s : ByteArray) (i : Nat) (w : World) :
    Calls Try.prog 84 #[.string s, .int .i64 i] w fun e w' => e = .returned (.int .u8 (Fx.dAt s.data.toList i)) ∧ w = w' := by
  by_cases h : i < s.size
  · have HV := Lib.hid (show Fx.dAt s.data.toList i = (s[i].toNat : Int) by
      unfold Fx.dAt
      rw [List.getElem?_eq_getElem (by simpa using h), Option.getD_some]; rfl)
    go_enter Try.func84, Try.ntmps84
    go_wp2
    go_ret
    exact ⟨ret_int HV.out.symm, rfl⟩
  · have HV := Lib.hid (show Fx.dAt s.data.toList i = 48 by
      unfold Fx.dAt
      rw [List.getElem?_eq_none (by simp; omega), Option.getD_none]; rfl)
    go_enter Try.func84, Try.ntmps84
    go_wp2
    go_ret
    exact ⟨ret_int HV.out.symm, rfl⟩

theorem take_snoc (s : ByteArray) (k : Nat) (h : k < s.size) : s.data.toList.take (k + 1) = s.data.toList.take k ++ [s[k]] := by
  rw [List.take_succ_eq_append_getElem (by simpa using h)]; rfl

set_option maxHeartbeats 400000 in
theorem allDigits_any (s : ByteArray) (w : World) (hs : s.size ≤ 9223372036854775807) :
    Calls Try.prog 77 #[.string s] w fun e w' => e = .returned (.bool (Fx.allDig s.data.toList)) ∧ w = w' := by
  go_enter Try.func77, Try.ntmps77
  go_wp2
  go_loop [6] (fun i => ∃ k : Nat, k ≤ s.size ∧ i = .int .i64 k ∧ Hid (Fx.allDig (s.data.toList.take k) = true)) (fun i => s.size - (intOf i).toNat)
  case atStart => exact ⟨0, Nat.zero_le _, rfl, Lib.hid rfl⟩
  case round =>
    obtain ⟨k, hk, rfl, hd⟩ := hrel
    by_cases hlt : k < s.size
    · have HE := Lib.hid (take_snoc s k hlt)
      have HM := Lib.hid (show s[k] ∈ s.data.toList from List.getElem_mem (l := s.data.toList) (by simpa using hlt))
      by_cases h1 : (s[k].toNat : Int) < 48
      · have HN := Lib.hid (show Fx.isDig s[k] = false by rw [Bool.eq_false_iff, Ne, Fx.isDig_iff]; omega)
        go_wp2
        go_ret
        exact ⟨ret_bool (Fx.allDig_no HM.out HN.out).symm, rfl⟩
      · by_cases h2 : 57 < (s[k].toNat : Int)
        · have HN := Lib.hid (show Fx.isDig s[k] = false by rw [Bool.eq_false_iff, Ne, Fx.isDig_iff]; omega)
          go_wp2
          go_ret
          exact ⟨ret_bool (Fx.allDig_no HM.out HN.out).symm, rfl⟩
        · have HN := Lib.hid (show Fx.isDig s[k] = true by rw [Fx.isDig_iff]; omega)
          go_wp2
          go_round
          case rel => exact ⟨k + 1, by omega, by go_num, Lib.hid (by rw [HE.out]; exact Fx.allDig_snoc hd.out HN.out)⟩
          case measure => simp [intOf]; omega
    · go_wp2
      go_ret
      refine ⟨ret_bool ?_, rfl⟩
      have := hd.out
      rw [List.take_of_length_le (by simp; omega)] at this
      exact this.symm

set_option maxHeartbeats 400000 in
theorem thousandths_any (s p : ByteArray) (w : World) (hs : s.size ≤ 9223372036854775807) (hd : Fx.allDig s.data.toList = true) (hp : Fx.allDig p.data.toList = true) :
    Calls Try.prog 78 #[.string s, .string p] w fun e w' => e = .returned (.int .i64 (Fx.thou s.data.toList p.data.toList)) ∧ w = w' := by
  have HD := Lib.hid hd
  have HP := Lib.hid hp
  clear hd hp
  go_enter Try.func78, Try.ntmps78
  go_wp2
  go_loop [5, 10] (fun n i => ∃ k : Nat, k ≤ s.size ∧ i = .int .i64 k ∧ n = .int .i64 (Fx.grownAll 0 (s.data.toList.take k))) (fun _ i => s.size - (intOf i).toNat)
  case atStart => exact ⟨0, Nat.zero_le _, rfl, rfl⟩
  case round =>
    obtain ⟨k, hk, rfl, rfl⟩ := hrel
    obtain ⟨b0, b1⟩ := Fx.grownAll_bd (Fx.allDig_take HD.out k) (n := 0) (by omega) (by omega)
    by_cases hlt : k < s.size
    · have HE := Lib.hid (show Fx.grownAll 0 (s.data.toList.take (k + 1)) = Fx.grown (Fx.grownAll 0 (s.data.toList.take k)) s[k].toNat by
        rw [take_snoc s k hlt, Fx.grownAll_snoc])
      obtain ⟨c0, c1⟩ := Fx.isDig_iff.1 (Fx.allDig_mem HD.out (show s[k] ∈ s.data.toList from List.getElem_mem (l := s.data.toList) (by simpa using hlt)))
      generalize Fx.grownAll 0 (s.data.toList.take k) = n at *
      go_wp2_with (go_at_call 83; refine (grown_any _ _ _ (by omega) (by omega) (by omega) (by omega)).mono ?_; rintro e w' ⟨rfl, rfl⟩)
      go_round
      case rel => exact ⟨k + 1, by omega, by go_num, by rw [HE.out]⟩
      case measure => simp [intOf]; omega
    · have HE := Lib.hid (show Fx.grownAll 0 (s.data.toList.take k) = Fx.thou3 s.data.toList p.data.toList 0 by
        rw [List.take_of_length_le (by simp; omega)]; rfl)
      go_wp2
      rw [HE.out]
      clear b0 b1
      go_loop [5, 19] (fun n i => ∃ k : Nat, k ≤ 3 ∧ i = .int .i64 k ∧ n = .int .i64 (Fx.thou3 s.data.toList p.data.toList k)) (fun _ i => 3 - (intOf i).toNat)
      case atStart => exact ⟨0, by omega, rfl, rfl⟩
      case round =>
        obtain ⟨j, hj, rfl, rfl⟩ := hrel
        obtain ⟨b0, b1⟩ := Fx.thou3_bd HD.out HP.out j
        obtain ⟨d0, d1⟩ := Fx.dAt_dig HP.out j
        by_cases h3 : j < 3
        · have HF := Lib.hid (show Fx.thou3 s.data.toList p.data.toList (j + 1) = Fx.grown (Fx.thou3 s.data.toList p.data.toList j) (Fx.dAt p.data.toList j) from rfl)
          generalize Fx.thou3 s.data.toList p.data.toList j = n at *
          go_wp2_with (first | (go_at_call 83; refine (grown_any _ _ _ (by omega) (by omega) (by omega) (by omega)).mono ?_; rintro e w' ⟨rfl, rfl⟩) | (go_at_call 84; refine (digitAt_any _ _ _).mono ?_; rintro e w' ⟨rfl, rfl⟩))
          go_round
          case rel => exact ⟨j + 1, by omega, by go_num, by rw [HF.out]⟩
          case measure => simp [intOf]; omega
        · obtain rfl : j = 3 := by omega
          obtain ⟨e0, e1⟩ := Fx.dAt_dig HP.out 3
          by_cases h5 : 53 ≤ Fx.dAt p.data.toList 3
          · have HF := Lib.hid (show Fx.thou s.data.toList p.data.toList = Fx.thou3 s.data.toList p.data.toList 3 + 1 from if_pos h5)
            generalize Fx.thou3 s.data.toList p.data.toList 3 = n at *
            go_wp2_with (go_at_call 84; refine (digitAt_any _ 3 _).mono ?_; rintro e w' ⟨rfl, rfl⟩)
            go_ret
            exact ⟨ret_int HF.out.symm, rfl⟩
          · have HF := Lib.hid (show Fx.thou s.data.toList p.data.toList = Fx.thou3 s.data.toList p.data.toList 3 from if_neg h5)
            generalize Fx.thou3 s.data.toList p.data.toList 3 = n at *
            go_wp2_with (go_at_call 84; refine (digitAt_any _ 3 _).mono ?_; rintro e w' ⟨rfl, rfl⟩)
            go_ret
            exact ⟨ret_int HF.out.symm, rfl⟩

theorem ret_sign {a b : Bool} {c d : ByteArray} (h : a = b) (h' : c = d) : Ending.returned (.tuple #[.bool a, .string c]) = .returned (.tuple #[.bool b, .string d]) := by rw [h, h']

set_option maxHeartbeats 400000 in
theorem cutSign_nil (w : World) :
    Calls Try.prog 75 #[.string ⟨#[]⟩] w fun e w' => e = .returned (.tuple #[.bool false, .string ⟨#[]⟩]) ∧ ∃ k, w' = w.drewN k := by
  go_enter Try.func75, Try.ntmps75
  go_wp2
  go_ret2
  exact ⟨rfl, 0, rfl⟩

theorem behind_one (c : UInt8) (r : List UInt8) : (⟨(c :: r).toArray⟩ : ByteArray).extract 1 (r.length + 1) = ⟨r.toArray⟩ := by
  apply ByteArray.ext
  rw [ByteArray.data_extract]
  simp

set_option maxHeartbeats 400000 in
theorem cutSign_cons (c : UInt8) (r : List UInt8) (w : World) :
    Calls Try.prog 75 #[.string ⟨(c :: r).toArray⟩] w fun e w' => e = .returned (.tuple #[.bool (Fx.signOf (c :: r)), .string ⟨(Fx.behindSign (c :: r)).toArray⟩]) ∧ ∃ k, w' = w.drewN k := by
  have hz : 0 < (⟨(c :: r).toArray⟩ : ByteArray).size := Nat.succ_pos _
  have e0 : (⟨(c :: r).toArray⟩ : ByteArray)[0] = c := rfl
  have HB := Lib.hid (behind_one c r)
  by_cases hp : c.toNat = 43
  · have HS := Lib.hid (Fx.sign_plus hp r)
    have e1 : (((⟨(c :: r).toArray⟩ : ByteArray)[0].toNat : Int) == 43) = true := by rw [e0]; rw [beq_iff_eq]; omega
    have e2 : (((⟨(c :: r).toArray⟩ : ByteArray)[0].toNat : Int) == 45) = false := by rw [e0]; rw [beq_eq_false_iff_ne]; omega
    clear e0
    go_enter Try.func75, Try.ntmps75
    go_wp2
    go_quiet (fail)
    go_wp2
    go_ret2
    exact ⟨ret_sign HS.out.1.symm (by rw [HS.out.2]; exact HB.out), _, rfl⟩
  by_cases hm : c.toNat = 45
  · have HS := Lib.hid (Fx.sign_minus hm r)
    have e1 : (((⟨(c :: r).toArray⟩ : ByteArray)[0].toNat : Int) == 43) = false := by rw [e0]; rw [beq_eq_false_iff_ne]; omega
    have e2 : (((⟨(c :: r).toArray⟩ : ByteArray)[0].toNat : Int) == 45) = true := by rw [e0]; rw [beq_iff_eq]; omega
    clear e0
    go_enter Try.func75, Try.ntmps75
    go_wp2
    go_quiet (fail)
    go_wp2
    go_ret2
    exact ⟨ret_sign HS.out.1.symm (by rw [HS.out.2]; exact HB.out), _, rfl⟩
  · have HS := Lib.hid (Fx.sign_none hp hm r)
    have e1 : (((⟨(c :: r).toArray⟩ : ByteArray)[0].toNat : Int) == 43) = false := by rw [e0]; rw [beq_eq_false_iff_ne]; omega
    have e2 : (((⟨(c :: r).toArray⟩ : ByteArray)[0].toNat : Int) == 45) = false := by rw [e0]; rw [beq_eq_false_iff_ne]; omega
    clear e0
    go_enter Try.func75, Try.ntmps75
    go_wp2
    go_ret2
    exact ⟨ret_sign HS.out.1.symm (by rw [HS.out.2]), 0, rfl⟩

end Go.Proofs.Ytdfgbdonnpbfcaa

namespace Go.Proofs.Ytdfgbdonnpbfcaa
open Go.RowKit

def Fine (w : World) : Prop :=
  (∃ m, w.cell? ⟨0, 0, none⟩ = some (.int .i64 m)) ∧ Lib.TabIs Try.prog w "internal/strconv.uint64pow10" .u64 Lib.pow10Tab

end Go.Proofs.Ytdfgbdonnpbfcaa

namespace Go.Proofs.Ytdfgbdonnpbfcaa
open Go.RowKit

theorem cutSign_any (l : List UInt8) (w : World) :
    Calls Try.prog 75 #[.string ⟨l.toArray⟩] w fun e w' => e = .returned (.tuple #[.bool (Fx.signOf l), .string ⟨(Fx.behindSign l).toArray⟩]) ∧ ∃ k, w' = w.drewN k := by
  cases l with
  | nil => exact cutSign_nil w
  | cons c r => exact cutSign_cons c r w

theorem Cut_any (d : List UInt8) (w : World) (hd : d.length ≤ 4000000000) (hf : HasMax w) :
    Calls Try.prog 76 #[.string ⟨d.toArray⟩, .string ⟨#[46]⟩] w fun e w' => e = .returned (.tuple #[.string ⟨(Fx.wholeOf d).toArray⟩, .string ⟨(Fx.partOf d).toArray⟩, .bool (Fx.pointIn d)]) ∧ ∃ k, w' = w.drewN k := by
  obtain ⟨m, hm⟩ := hf
  exact Try.strings_Cut ⟨d.toArray⟩ ⟨#[46]⟩ m w (show d.toArray.size < _ by simp; omega) hm

theorem allDigits_list (l : List UInt8) (w : World) (hl : l.length ≤ 9223372036854775807) :
    Calls Try.prog 77 #[.string ⟨l.toArray⟩] w fun e w' => e = .returned (.bool (Fx.allDig l)) ∧ w = w' :=
  allDigits_any ⟨l.toArray⟩ w (show l.toArray.size ≤ _ by simpa using hl)
theorem thousandths_list (l p : List UInt8) (w : World) (hl : l.length ≤ 9223372036854775807) (hd : Fx.allDig l = true) (hp : Fx.allDig p = true) :
    Calls Try.prog 78 #[.string ⟨l.toArray⟩, .string ⟨p.toArray⟩] w fun e w' => e = .returned (.int .i64 (Fx.thou l p)) ∧ w = w' :=
  thousandths_any ⟨l.toArray⟩ ⟨p.toArray⟩ w (show l.toArray.size ≤ _ by simpa using hl) hd hp

set_option maxHeartbeats 400000 in
theorem Parse_long (l : List UInt8) (w : World) (hl : 400 < l.length) (hl' : l.length ≤ 9223372036854775807) :
    Calls Try.prog 67 #[.string ⟨l.toArray⟩] w fun e w' => e = .returned (.tuple #[.int .i64 (Fx.parseV l), .int .i64 (Fx.parseE l)]) ∧ Kept w w' := by
  have HP := Lib.hid (Fx.parse_long hl)
  go_enter Try.func67, Try.ntmps67
  go_wp2
  go_ret2
  exact ⟨ret_ints HP.out.1.symm HP.out.2.symm, Kept.refl _⟩

set_option maxHeartbeats 1000000 in
theorem Parse_short (l : List UInt8) (w : World) (hl : l.length ≤ 400) (hf : HasMax w) :
    Calls Try.prog 67 #[.string ⟨l.toArray⟩] w fun e w' => e = .returned (.tuple #[.int .i64 (Fx.parseV l), .int .i64 (Fx.parseE l)]) ∧ Kept w w' := by
  have hb := Fx.behindSign_le l
  have hw := Fx.wholeOf_le (Fx.behindSign l)
  have hp := Fx.partOf_le (Fx.behindSign l)
  by_cases hz0 : (Fx.wholeOf (Fx.behindSign l)).length + (Fx.partOf (Fx.behindSign l)).length = 0
  · have HP := Lib.hid (Fx.parse_form (l := l) (by omega) (Fx.form_zero hz0))
    have hz : (((Fx.wholeOf (Fx.behindSign l)).length : Int) + ((Fx.partOf (Fx.behindSign l)).length : Int) == 0) = true := by rw [beq_iff_eq]; omega
    clear hz0
    go_enter Try.func67, Try.ntmps67
    go_wp2_with (first | (go_at_call 75; refine (cutSign_any _ _).mono ?_; rintro e w' ⟨rfl, k1, rfl⟩) | (go_at_call 76; refine (Cut_any _ _ (by omega) (hf.kept ((Kept.refl _).drewN _))).mono ?_; rintro e w' ⟨rfl, k2, rfl⟩))
    go_ret2
    exact ⟨ret_ints HP.out.1.symm HP.out.2.symm, (Kept.refl _).drewN _⟩
  have hz : (((Fx.wholeOf (Fx.behindSign l)).length : Int) + ((Fx.partOf (Fx.behindSign l)).length : Int) == 0) = false := by rw [beq_eq_false_iff_ne]; omega
  cases h1 : Fx.allDig (Fx.wholeOf (Fx.behindSign l))
  · have HP := Lib.hid (Fx.parse_form (l := l) (by omega) (Fx.form_whole h1))
    clear hz0
    go_enter Try.func67, Try.ntmps67
    go_wp2_with (first | (go_at_call 75; refine (cutSign_any _ _).mono ?_; rintro e w' ⟨rfl, k1, rfl⟩) | (go_at_call 76; refine (Cut_any _ _ (by omega) (hf.kept ((Kept.refl _).drewN _))).mono ?_; rintro e w' ⟨rfl, k2, rfl⟩) | (go_at_call 77; refine (allDigits_list _ _ (by omega)).mono ?_; rintro e w' ⟨rfl, rfl⟩))
    go_ret2
    exact ⟨ret_ints HP.out.1.symm HP.out.2.symm, (Kept.refl _).drewN _⟩
  cases h2 : Fx.allDig (Fx.partOf (Fx.behindSign l))
  · have HP := Lib.hid (Fx.parse_form (l := l) (by omega) (Fx.form_part h2))
    clear hz0
    go_enter Try.func67, Try.ntmps67
    go_wp2_with (first | (go_at_call 75; refine (cutSign_any _ _).mono ?_; rintro e w' ⟨rfl, k1, rfl⟩) | (go_at_call 76; refine (Cut_any _ _ (by omega) (hf.kept ((Kept.refl _).drewN _))).mono ?_; rintro e w' ⟨rfl, k2, rfl⟩) | (go_at_call 77; refine (allDigits_list _ _ (by omega)).mono ?_; rintro e w' ⟨rfl, rfl⟩))
    go_ret2
    exact ⟨ret_ints HP.out.1.symm HP.out.2.symm, (Kept.refl _).drewN _⟩
  have HP := Lib.hid (Fx.parse_num (l := l) (by omega) (Fx.form_yes hz0 h1 h2))
  obtain ⟨n0, n1⟩ := Fx.thou_bd h1 h2
  cases hs : Fx.signOf l
  · have HN := Lib.hid (show Fx.numOf l = Fx.thou (Fx.wholeOf (Fx.behindSign l)) (Fx.partOf (Fx.behindSign l)) from if_neg (by rw [hs]; simp))
    clear hz0
    go_enter Try.func67, Try.ntmps67
    go_wp2_with (first | (go_at_call 75; refine (cutSign_any _ _).mono ?_; rintro e w' ⟨rfl, k1, rfl⟩) | (go_at_call 76; refine (Cut_any _ _ (by omega) (hf.kept ((Kept.refl _).drewN _))).mono ?_; rintro e w' ⟨rfl, k2, rfl⟩) | (go_at_call 77; refine (allDigits_list _ _ (by omega)).mono ?_; rintro e w' ⟨rfl, rfl⟩) | (go_at_call 78; refine (thousandths_list _ _ _ (by omega) (by assumption) (by assumption)).mono ?_; rintro e w' ⟨rfl, rfl⟩) | (go_at_call 79; refine (checked_any _ _).mono ?_; rintro e w' ⟨rfl, hg⟩))
    go_ret2
    exact ⟨ret_ints (by rw [HP.out.1, HN.out]) (by rw [HP.out.2, HN.out]), Kept.trans ((Kept.refl _).drewN _) hg⟩
  · have HN := Lib.hid (show Fx.numOf l = -(Fx.thou (Fx.wholeOf (Fx.behindSign l)) (Fx.partOf (Fx.behindSign l))) from if_pos hs)
    clear hz0
    go_enter Try.func67, Try.ntmps67
    go_wp2_with (first | (go_at_call 75; refine (cutSign_any _ _).mono ?_; rintro e w' ⟨rfl, k1, rfl⟩) | (go_at_call 76; refine (Cut_any _ _ (by omega) (hf.kept ((Kept.refl _).drewN _))).mono ?_; rintro e w' ⟨rfl, k2, rfl⟩) | (go_at_call 77; refine (allDigits_list _ _ (by omega)).mono ?_; rintro e w' ⟨rfl, rfl⟩) | (go_at_call 78; refine (thousandths_list _ _ _ (by omega) (by assumption) (by assumption)).mono ?_; rintro e w' ⟨rfl, rfl⟩) | (go_at_call 79; refine (checked_any _ _).mono ?_; rintro e w' ⟨rfl, hg⟩))
    go_ret2
    exact ⟨ret_ints (by rw [HP.out.1, HN.out]) (by rw [HP.out.2, HN.out]), Kept.trans ((Kept.refl _).drewN _) hg⟩

theorem Parse_max (l : List UInt8) (w : World) (hl : l.length ≤ 9223372036854775807) (hf : HasMax w) :
    Calls Try.prog 67 #[.string ⟨l.toArray⟩] w fun e w' => e = .returned (.tuple #[.int .i64 (Fx.parseV l), .int .i64 (Fx.parseE l)]) ∧ Kept w w' := by
  by_cases h : 400 < l.length
  · exact Parse_long l w h hl
  · exact Parse_short l w (by omega) hf

theorem Parse_any (l : List UInt8) (w : World) (hl : l.length ≤ 9223372036854775807) (hf : Fine w) :
    Calls Try.prog 67 #[.string ⟨l.toArray⟩] w fun e w' => e = .returned (.tuple #[.int .i64 (Fx.parseV l), .int .i64 (Fx.parseE l)]) ∧ Kept w w' :=
  Parse_max l w hl hf.1

end Go.Proofs.Ytdfgbdonnpbfcaa
