/-
  Package xref as functions on lists: entries, how they merge. Nothing of the program is named here.
  Entries as a table's text: what package xref's Write answers, as functions on lists.
  Tokens of a table's text; Start and Parse of package xref as functions on lists.
  What package xref's Write answers is read by its Parse as it was: on lists.
-/
import Derived.WalkKit
import Derived.KernelRfl
import Derived.Test.YtnmehngedljgoaaGreatDoorFixMs
import Derived.Lib.Repeat
import Derived.Test.YtnmehngedljgoaaGreatDoorLexM
import Derived.Lib.LastIndexLaws
namespace Go.Proofs.YtnmehngedljgoaaGreatDoor.Rx

/-- An entry. -/
structure Xent where
  n : Int
  off : Int
  gen : Int
  used : Bool
deriving DecidableEq, Inhabited

/-- The first entry of a number. -/
def first (l : List Xent) (n : Int) : Option Xent := l.find? (fun e => e.n == n)
theorem first_n {l : List Xent} {n : Int} {e : Xent} (h : first l n = some e) : e.n = n := by
  have := List.find?_some h; simpa using this
theorem first_mem {l : List Xent} {n : Int} {e : Xent} (h : first l n = some e) : e ∈ l := List.mem_of_find?_eq_some h
theorem first_none {l : List Xent} {n : Int} (h : first l n = none) : ∀ e ∈ l, e.n ≠ n := fun e he => by
  have := List.find?_eq_none.1 h e he; simpa using this
theorem first_is {l : List Xent} {e : Xent} (h : e ∈ l) : ∃ f, first l e.n = some f := by
  cases h2 : first l e.n with
  | none => exact absurd rfl (first_none h2 e h)
  | some f => exact ⟨f, rfl⟩
theorem first_app (a b : List Xent) (n : Int) : first (a ++ b) n = (first a n).or (first b n) := by
  unfold first; exact List.find?_append
theorem first_cons (e : Xent) (l : List Xent) (n : Int) : first (e :: l) n = if e.n = n then some e else first l n := by
  unfold first; rw [List.find?_cons]
  by_cases h : e.n = n
  · simp [h]
  · rw [show (e.n == n) = false from by simpa using h, if_neg h]
theorem first_snoc (l : List Xent) (e : Xent) (n : Int) : first (l ++ [e]) n = (first l n).or (if e.n = n then some e else none) := by
  rw [first_app, first_cons]; rfl

/-- Entries rise. -/
def Rise (l : List Xent) : Prop := l.Pairwise (fun a b => a.n < b.n)
/-- m is what the entries of l are by rising numbers, each number's first one. -/
def IsM (l m : List Xent) : Prop := Rise m ∧ ∀ e, e ∈ m ↔ first l e.n = some e

theorem rise_first {m : List Xent} (h : Rise m) {e : Xent} (he : e ∈ m) : first m e.n = some e := by
  induction m with
  | nil => cases he
  | cons x xs ih =>
    rw [first_cons]
    have hp := List.pairwise_cons.1 h
    rcases List.mem_cons.1 he with rfl | he
    · rw [if_pos rfl]
    · rw [if_neg (by have := hp.1 e he; omega)]
      exact ih hp.2 he
theorem rise_ext : ∀ (a b : List Xent), Rise a → Rise b → (∀ e, e ∈ a ↔ e ∈ b) → a = b
  | [], [], _, _, _ => rfl
  | [], y :: ys, _, _, h => absurd ((h y).2 List.mem_cons_self) List.not_mem_nil
  | x :: xs, [], _, _, h => absurd ((h x).1 List.mem_cons_self) List.not_mem_nil
  | x :: xs, y :: ys, ha, hb, h => by
    have pa := List.pairwise_cons.1 ha
    have pb := List.pairwise_cons.1 hb
    have e : x = y := by
      rcases List.mem_cons.1 ((h x).1 List.mem_cons_self) with e | e
      · exact e
      · rcases List.mem_cons.1 ((h y).2 List.mem_cons_self) with e2 | e2
        · exact e2.symm
        · have := pa.1 y e2; have := pb.1 x e; omega
    subst e
    congr 1
    refine rise_ext xs ys pa.2 pb.2 (fun z => ⟨fun hz => ?_, fun hz => ?_⟩)
    · rcases List.mem_cons.1 ((h z).1 (List.mem_cons_of_mem _ hz)) with e2 | e2
      · subst e2; have := pa.1 z hz; omega
      · exact e2
    · rcases List.mem_cons.1 ((h z).2 (List.mem_cons_of_mem _ hz)) with e2 | e2
      · subst e2; have := pb.1 z hz; omega
      · exact e2
theorem isM_one {l m m' : List Xent} (h : IsM l m) (h' : IsM l m') : m = m' :=
  rise_ext m m' h.1 h'.1 (fun e => (h.2 e).trans (h'.2 e).symm)
theorem isM_mem {l m : List Xent} (h : IsM l m) {e : Xent} (he : e ∈ m) : e ∈ l := first_mem ((h.2 e).1 he)
theorem isM_first {l m : List Xent} (h : IsM l m) (n : Int) : first m n = first l n := by
  cases h2 : first l n with
  | none =>
    cases h3 : first m n with
    | none => rfl
    | some e =>
      have := first_none h2 e (isM_mem h (first_mem h3))
      exact absurd (first_n h3) this
  | some e =>
    have hn := first_n h2
    subst hn
    exact rise_first h.1 ((h.2 e).2 h2)
theorem isM_again {l m : List Xent} (k : List Xent) (h : IsM l m) (hk : ∀ e ∈ k, e ∈ l) : IsM (m ++ k) m := by
  refine ⟨h.1, fun e => ?_⟩
  rw [first_app, isM_first h, h.2 e]
  cases h2 : first l e.n with
  | some f => rfl
  | none =>
    constructor
    · intro h3; cases h3
    · intro h3
      have : first k e.n = some e := h3
      exact absurd rfl (first_none h2 e (hk e (first_mem this)))
theorem isM_newer {l old m n : List Xent} (h : IsM (l ++ old) m) (hn : IsM l n) {e : Xent} (he : e ∈ n) : e ∈ m := by
  rw [h.2 e, first_app, (hn.2 e).1 he]; rfl
theorem rise_nodup {m : List Xent} (h : Rise m) : m.Nodup := List.Pairwise.imp (fun hab => by rintro rfl; omega) h
theorem nodup_le {α : Type} [DecidableEq α] : ∀ (m l : List α), m.Nodup → (∀ e ∈ m, e ∈ l) → m.length ≤ l.length
  | [], _, _, _ => Nat.zero_le _
  | x :: xs, l, h, hs => by
    have hx : x ∈ l := hs x List.mem_cons_self
    have hp := List.nodup_cons.1 h
    have h2 := nodup_le xs (l.erase x) hp.2 (fun e he => by
      rw [List.mem_erase_of_ne (by rintro rfl; exact hp.1 he)]
      exact hs e (List.mem_cons_of_mem _ he))
    have h3 := List.length_erase_of_mem hx
    have h4 : 0 < l.length := List.length_pos_of_mem hx
    simp only [List.length_cons]; omega
theorem isM_len {l m : List Xent} (h : IsM l m) : m.length ≤ l.length := nodup_le m l (rise_nodup h.1) (fun _ he => isM_mem h he)
theorem rise_get {m : List Xent} (h : Rise m) {i j : Nat} (hij : i < j) (hj : j < m.length) : (m[i]'(by omega)).n < m[j].n :=
  List.pairwise_iff_getElem.1 h i j (by omega) hj hij

end Go.Proofs.YtnmehngedljgoaaGreatDoor.Rx

namespace Go.Proofs.YtnmehngedljgoaaGreatDoor.Rx

/-- A number in so many digits. -/
def digs : Nat → Nat → List UInt8
  | 0, _ => []
  | k + 1, n => digs k (n / 10) ++ [UInt8.ofNat (48 + n % 10)]
theorem digs_len : ∀ k n, (digs k n).length = k
  | 0, _ => rfl
  | k + 1, n => by rw [digs, List.length_append, digs_len k]; rfl
theorem digs_zero : ∀ k, digs k 0 = List.replicate k 48
  | 0 => rfl
  | k + 1 => by
    rw [digs, Nat.zero_div, digs_zero k, List.replicate_succ']
    rfl
theorem digs_dec : ∀ (k n : Nat), n < 10 ^ (k + 1) → digs (k + 1) n = List.replicate (k + 1 - Lib.nDigits n) 48 ++ Lib.decDigits n
  | k, n, h => by
    by_cases hn : n < 10
    · rw [Lib.nDigits_small hn, Lib.decDigits, dif_pos hn, digs, Nat.div_eq_of_lt hn, digs_zero, Nat.mod_eq_of_lt hn, Nat.add_sub_cancel]
    · rw [Lib.nDigits_big hn, Lib.decDigits, dif_neg hn, digs]
      cases k with
      | zero => exact absurd (by simpa using h) hn
      | succ k =>
        rw [digs_dec k (n / 10) (by rw [Nat.pow_succ] at h; omega), List.append_assoc]
        congr 2
        omega
theorem digs_all (n : Nat) : digs (Lib.nDigits n) n = Lib.decDigits n := by
  have h := Lib.lt_pow_nDigits n
  have h1 := Lib.nDigits_pos n
  obtain ⟨k, hk⟩ : ∃ k, Lib.nDigits n = k + 1 := ⟨Lib.nDigits n - 1, by omega⟩
  have e := digs_dec k n (by rw [← hk]; exact h)
  rw [hk] at e ⊢
  rw [e, Nat.sub_self]; rfl
theorem nDigits_le_iff {k n : Nat} (hk : 1 ≤ k) : Lib.nDigits n ≤ k ↔ n < 10 ^ k := by
  constructor
  · intro h
    exact Nat.lt_of_lt_of_le (Lib.lt_pow_nDigits n) (Nat.pow_le_pow_right (by decide) h)
  · intro h
    obtain ⟨j, rfl⟩ : ∃ j, k = j + 1 := ⟨k - 1, by omega⟩
    exact Fx.nDigits_le j n h
theorem repeat_zero : ∀ k, Lib.repeatL [48] k = List.replicate k 48
  | 0 => rfl
  | k + 1 => by
    rw [List.replicate_succ, ← repeat_zero k]
    rfl

/-- An entry's line. -/
def lineT (e : Xent) : List UInt8 := digs 10 e.off.toNat ++ [32] ++ digs 5 e.gen.toNat ++ (if e.used then [32, 110, 32, 10] else [32, 102, 32, 10])
/-- The line ahead of a run's entries. -/
def headT (n : Int) (c : Nat) : List UInt8 := Lib.decDigits n.toNat ++ [32] ++ Lib.decDigits c ++ [10]
/-- How many entries have the numbers from n on. -/
def runF : Int → List Xent → Nat
  | _, [] => 0
  | n, e :: r => if e.n = n then runF (n + 1) r + 1 else 0
def runL : List Xent → Nat
  | [] => 0
  | e :: r => runF (e.n + 1) r + 1
def bodyT : Option Int → List Xent → List UInt8
  | _, [] => []
  | p, e :: r => (if p = some (e.n - 1) then [] else headT e.n (runL (e :: r))) ++ lineT e ++ bodyT (some e.n) r
def xrefT : List UInt8 := [120, 114, 101, 102, 10]
def writeT (l : List Xent) : List UInt8 := xrefT ++ bodyT none l

theorem runF_le : ∀ (l : List Xent) (n : Int), runF n l ≤ l.length
  | [], _ => Nat.le_refl _
  | e :: r, n => by
    have := runF_le r (n + 1)
    unfold runF; rw [List.length_cons]; split <;> omega
theorem runL_le (l : List Xent) : runL l ≤ l.length := by
  cases l with
  | nil => exact Nat.le_refl _
  | cons e r => have := runF_le r (e.n + 1); rw [List.length_cons]; exact Nat.succ_le_succ this
theorem runL_pos {l : List Xent} (h : l ≠ []) : 1 ≤ runL l := by
  cases l with
  | nil => exact absurd rfl h
  | cons e r => exact Nat.succ_le_succ (Nat.zero_le _)
theorem body_none (p : Option Int) : ∀ l : List Xent, (∀ e r, l = e :: r → p ≠ some (e.n - 1)) → bodyT p l = bodyT none l
  | [], _ => by rw [bodyT, bodyT]
  | e :: r, h => by rw [bodyT, bodyT, if_neg (h e r rfl), if_neg (by simp)]
theorem body_runF : ∀ (l : List Xent) (n : Int), bodyT (some (n - 1)) l = (l.take (runF n l)).flatMap lineT ++ bodyT none (l.drop (runF n l))
  | [], n => by unfold runF bodyT; rfl
  | e :: r, n => by
    by_cases h : e.n = n
    · rw [runF, if_pos h, bodyT, if_pos (by rw [h]), List.nil_append, h, show (some n : Option Int) = some (n + 1 - 1) by rw [Int.add_sub_cancel], body_runF r (n + 1), List.take_succ_cons, List.drop_succ_cons, List.flatMap_cons, List.append_assoc]
    · rw [runF, if_neg h, List.take_zero, List.drop_zero, body_none _ _ (fun e' r' he => by
        injection he with h1 h2
        subst h1
        intro h3
        have h4 := Option.some.inj h3
        omega)]
      rfl
theorem body_run {l : List Xent} {e : Xent} {r : List Xent} (h : l = e :: r) : bodyT none l = headT e.n (runL l) ++ (l.take (runL l)).flatMap lineT ++ bodyT none (l.drop (runL l)) := by
  subst h
  rw [bodyT, if_neg (by simp)]
  have := body_runF r (e.n + 1)
  rw [Int.add_sub_cancel] at this
  rw [this]
  unfold runL
  rw [List.take_succ_cons, List.drop_succ_cons, List.flatMap_cons]
  simp only [List.append_assoc]
/-- As the reference tells the runs, one entry behind the other. -/
theorem body_get (l : List Xent) (i : Nat) (h : i < l.length) (p : Option Int) : bodyT p (l.drop i) = (if p = some (l[i].n - 1) then [] else headT l[i].n (runL (l.drop i))) ++ lineT l[i] ++ bodyT (some l[i].n) (l.drop (i + 1)) := by
  rw [List.drop_eq_getElem_cons h, bodyT]

/-- Do the numbers rise, from above a number on, and is none below 0? -/
def risG : Int → List Xent → Bool
  | _, [] => true
  | n, e :: r => decide (n < e.n) && decide (0 ≤ e.off) && decide (0 ≤ e.gen) && risG e.n r
def tooG (e : Xent) : Bool := decide (9999999999 < e.off) || decide (99999 < e.gen) || decide (4096 ≤ e.n)
/-- Write. -/
def writeE (l : List Xent) : Int := if risG (-1) l then (if l.any tooG then 2 else 0) else 1
def writeV (l : List Xent) : List UInt8 := if writeE l = 0 then writeT l else []
theorem ris_cons {n : Int} {e : Xent} {r : List Xent} : risG n (e :: r) = true ↔ n < e.n ∧ 0 ≤ e.off ∧ 0 ≤ e.gen ∧ risG e.n r = true := by
  rw [risG]; simp [and_assoc]
theorem ris_bad {n : Int} {e : Xent} {r : List Xent} (h : ¬ (n < e.n ∧ 0 ≤ e.off ∧ 0 ≤ e.gen)) : risG n (e :: r) = false := by
  cases hb : risG n (e :: r) with
  | false => rfl
  | true => exact absurd ⟨(ris_cons.1 hb).1, (ris_cons.1 hb).2.1, (ris_cons.1 hb).2.2.1⟩ h
theorem ris_good {n : Int} {e : Xent} {r : List Xent} (h : n < e.n ∧ 0 ≤ e.off ∧ 0 ≤ e.gen) : risG n (e :: r) = risG e.n r := by
  rw [risG, decide_eq_true h.1, decide_eq_true h.2.1, decide_eq_true h.2.2]; rfl
theorem ris_mem : ∀ {l : List Xent} {n : Int}, risG n l = true → ∀ e ∈ l, n < e.n ∧ 0 ≤ e.off ∧ 0 ≤ e.gen
  | [], _, _, _, he => by cases he
  | x :: r, n, h, e, he => by
    obtain ⟨h1, h2, h3, h4⟩ := ris_cons.1 h
    rcases List.mem_cons.1 he with rfl | he
    · exact ⟨h1, h2, h3⟩
    · have := ris_mem h4 e he; exact ⟨by omega, this.2⟩
theorem writeE_one {l : List Xent} (h : risG (-1) l = false) : writeE l = 1 := by unfold writeE; rw [h]; rfl
theorem writeE_two {l : List Xent} (h : risG (-1) l = true) (h2 : l.any tooG = true) : writeE l = 2 := by unfold writeE; rw [h, h2]; rfl
theorem writeE_ok {l : List Xent} (h : risG (-1) l = true) (h2 : l.any tooG = false) : writeE l = 0 := by unfold writeE; rw [h, h2]; rfl
theorem writeE_zero {l : List Xent} (h : writeE l = 0) : risG (-1) l = true ∧ ∀ e ∈ l, 0 ≤ e.n ∧ e.n < 4096 ∧ 0 ≤ e.off ∧ e.off ≤ 9999999999 ∧ 0 ≤ e.gen ∧ e.gen ≤ 99999 := by
  unfold writeE at h
  split at h
  · rename_i hr
    split at h
    · cases h
    · rename_i ht
      refine ⟨hr, fun e he => ?_⟩
      have hm := ris_mem hr e he
      have h2 : tooG e = false := by
        cases hb : tooG e with
        | false => rfl
        | true => exact absurd (List.any_eq_true.2 ⟨e, he, hb⟩) ht
      unfold tooG at h2
      simp only [Bool.or_eq_false_iff, decide_eq_false_iff_not] at h2
      omega
  · cases h
theorem writeE_cases (l : List Xent) : writeE l = 0 ∨ writeE l = 1 ∨ writeE l = 2 := by
  unfold writeE; split
  · split
    · exact .inr (.inr rfl)
    · exact .inl rfl
  · exact .inr (.inl rfl)

end Go.Proofs.YtnmehngedljgoaaGreatDoor.Rx

namespace Go.Proofs.YtnmehngedljgoaaGreatDoor.Rx
open Lx
set_option linter.unusedSimpArgs false
set_option linter.unusedVariables false

/-- The next token, which must be there. -/
def tokX (l : List UInt8) (a : Int) : Int × Tok :=
  if (nextV l a).1 = 0 then (if (nextV l a).2.kind = 0 then (4, zero) else (0, (nextV l a).2)) else ((nextV l a).1, zero)
def isWh (t : Tok) : Bool := t.kind == 1 && t.whole && decide (0 ≤ t.f)
def isWd (t : Tok) (s : List UInt8) : Bool := t.kind == 8 && t.s == s
/-- A whole number. -/
def wholeX (l : List UInt8) (a : Int) : Int × Int × Nat :=
  if (tokX l a).1 = 0 then (if isWh (tokX l a).2 then (0, (tokX l a).2.f.tdiv 1000, (tokX l a).2.to) else (3, 0, 0)) else ((tokX l a).1, 0, 0)
def zeroE : Xent := ⟨0, 0, 0, false⟩
/-- What a section tells of one object. -/
def entT (t : Int × Tok) (n off gen : Int) : Int × Xent × Nat :=
  if t.1 = 0 then (if isWd t.2 [110] || isWd t.2 [102] then (0, ⟨n, off, gen, t.2.s == [110]⟩, t.2.to) else (3, zeroE, 0)) else (t.1, zeroE, 0)
def entX (l : List UInt8) (a : Int) (n : Int) : Int × Xent × Nat :=
  if (wholeX l a).1 = 0 then
    (if (wholeX l (wholeX l a).2.2).1 = 0 then entT (tokX l (wholeX l (wholeX l a).2.2).2.2) n (wholeX l a).2.1 (wholeX l (wholeX l a).2.2).2.1
     else ((wholeX l (wholeX l a).2.2).1, zeroE, 0))
  else ((wholeX l a).1, zeroE, 0)
/-- So many entries. -/
def secG (l : List UInt8) : Nat → Int → Nat → List Xent → Int × List Xent × Nat
  | 0, _, a, acc => (0, acc, a)
  | n + 1, first, a, acc => if (entX l a first).1 = 0 then secG l n (first + 1) (entX l a first).2.2 (acc ++ [(entX l a first).2.1]) else ((entX l a first).1, [], 0)
def secX (l : List UInt8) (first : Int) (a : Nat) : Int × List Xent × Nat :=
  if (wholeX l a).1 = 0 then (if 0 < (wholeX l a).2.1 ∧ 4096 < first + (wholeX l a).2.1 then (6, [], 0) else secG l (wholeX l a).2.1.toNat first (wholeX l a).2.2 [])
  else ((wholeX l a).1, [], 0)
def trailT : List UInt8 := [116, 114, 97, 105, 108, 101, 114]
def entsG (l : List UInt8) : Nat → Nat → List Xent → Int × List Xent × Nat
  | 0, _, _ => (99, [], 0)
  | F + 1, a, acc =>
    if (tokX l a).1 = 0 then
      (if isWd (tokX l a).2 trailT then (0, acc, (tokX l a).2.to)
       else if isWh (tokX l a).2 then
         (if (secX l ((tokX l a).2.f.tdiv 1000) (tokX l a).2.to).1 = 0 then entsG l F (secX l ((tokX l a).2.f.tdiv 1000) (tokX l a).2.to).2.2 (acc ++ (secX l ((tokX l a).2.f.tdiv 1000) (tokX l a).2.to).2.1)
          else ((secX l ((tokX l a).2.f.tdiv 1000) (tokX l a).2.to).1, [], 0))
       else (3, [], 0))
    else ((tokX l a).1, [], 0)
def entsX (l : List UInt8) (a : Int) : Int × List Xent × Nat :=
  if (tokX l a).1 = 0 then (if isWd (tokX l a).2 [120, 114, 101, 102] then entsG l (l.length + 2) (tokX l a).2.to [] else (3, [], 0)) else ((tokX l a).1, [], 0)
/-- Parse. -/
def parseX (l : List UInt8) (a : Int) : Int × List Xent × Cx.Ob :=
  if (entsX l a).1 = 0 then
    (if (Cx.parse l (entsX l a).2.2).1 = 0 then (if (Cx.parse l (entsX l a).2.2).2.1.k = 6 then (0, (entsX l a).2.1, (Cx.parse l (entsX l a).2.2).2.1) else (3, [], Cx.nul))
     else ((Cx.parse l (entsX l a).2.2).1, [], Cx.nul))
  else ((entsX l a).1, [], Cx.nul)
def startT : List UInt8 := [115, 116, 97, 114, 116, 120, 114, 101, 102]
/-- Start. -/
def startX (l : List UInt8) : Int × Int :=
  if Lib.lastIndex l startT < 0 then (3, 0)
  else if (wholeX l (Lib.lastIndex l startT + 9)).1 = 4 then (3, 0)
  else if (wholeX l (Lib.lastIndex l startT + 9)).1 = 0 then (if (l.length : Int) < (wholeX l (Lib.lastIndex l startT + 9)).2.1 then (2, 0) else (0, (wholeX l (Lib.lastIndex l startT + 9)).2.1))
  else ((wholeX l (Lib.lastIndex l startT + 9)).1, 0)

theorem tokX_ok {l : List UInt8} {a : Int} (h : (tokX l a).1 = 0) : (nextV l a).1 = 0 ∧ (tokX l a).2 = (nextV l a).2 ∧ (nextV l a).2.kind ≠ 0 ∧ 0 ≤ a ∧ a < ((tokX l a).2.to : Int) ∧ (tokX l a).2.to ≤ l.length := by
  unfold tokX at h ⊢
  by_cases h1 : (nextV l a).1 = 0
  · rw [if_pos h1] at h ⊢
    by_cases h2 : (nextV l a).2.kind = 0
    · rw [if_pos h2] at h; exact absurd h (by decide)
    · rw [if_neg h2] at h ⊢
      obtain ⟨b1, b2, b3, b4, b5, b6, b7⟩ := next_bd l a h1
      refine ⟨h1, rfl, h2, b1, ?_, b6⟩
      rcases b7 with ⟨k, _⟩ | ⟨_, _, k⟩
      · exact absurd k h2
      · show a < ((nextV l a).2.to : Int); omega
  · rw [if_neg h1] at h; exact absurd h h1
theorem isWh_iff {t : Tok} : isWh t = true ↔ t.kind = 1 ∧ t.whole = true ∧ 0 ≤ t.f := by
  unfold isWh; simp [and_assoc]
theorem wholeX_ok {l : List UInt8} {a : Int} (h : (wholeX l a).1 = 0) : 0 ≤ a ∧ a < ((wholeX l a).2.2 : Int) ∧ (wholeX l a).2.2 ≤ l.length ∧ 0 ≤ (wholeX l a).2.1 ∧ (wholeX l a).2.1 ≤ 2147483 := by
  unfold wholeX at h ⊢
  by_cases h1 : (tokX l a).1 = 0
  · rw [if_pos h1] at h ⊢
    by_cases h2 : isWh (tokX l a).2 = true
    · rw [if_pos h2]
      obtain ⟨t1, t2, t3, t4, t5, t6⟩ := tokX_ok h1
      have hf := (isWh_iff.1 h2).2.2
      have hb := (next_len l a).2.1
      rw [t2] at hf t5 t6 ⊢
      refine ⟨t4, t5, t6, ?_, ?_⟩
      · show 0 ≤ (nextV l a).2.f.tdiv 1000
        rw [Int.tdiv_eq_ediv_of_nonneg hf]; omega
      · show (nextV l a).2.f.tdiv 1000 ≤ 2147483
        rw [Int.tdiv_eq_ediv_of_nonneg hf]; omega
    · rw [if_neg h2] at h; exact absurd h (by decide)
  · rw [if_neg h1] at h; exact absurd h h1
theorem entX_ok {l : List UInt8} {a n : Int} (h : (entX l a n).1 = 0) : 0 ≤ a ∧ a < ((entX l a n).2.2 : Int) ∧ (entX l a n).2.2 ≤ l.length := by
  unfold entX at h ⊢
  by_cases h1 : (wholeX l a).1 = 0
  · rw [if_pos h1] at h ⊢
    obtain ⟨w0, w1, w2, -, -⟩ := wholeX_ok h1
    by_cases h2 : (wholeX l (wholeX l a).2.2).1 = 0
    · rw [if_pos h2] at h ⊢
      obtain ⟨v0, v1, v2, -, -⟩ := wholeX_ok h2
      unfold entT at h ⊢
      by_cases h3 : (tokX l (wholeX l (wholeX l a).2.2).2.2).1 = 0
      · rw [if_pos h3] at h ⊢
        obtain ⟨-, -, -, t4, t5, t6⟩ := tokX_ok h3
        by_cases h4 : (isWd (tokX l (wholeX l (wholeX l a).2.2).2.2).2 [110] || isWd (tokX l (wholeX l (wholeX l a).2.2).2.2).2 [102]) = true
        · rw [if_pos h4]; refine ⟨w0, ?_, t6⟩; simp only []; omega
        · rw [if_neg h4] at h; exact absurd h (by decide)
      · rw [if_neg h3] at h; exact absurd h h3
    · rw [if_neg h2] at h; exact absurd h h2
  · rw [if_neg h1] at h; exact absurd h h1
theorem secG_ok {l : List UInt8} : ∀ (n : Nat) (first : Int) (a : Nat) (acc : List Xent), (secG l n first a acc).1 = 0 → a ≤ l.length → a ≤ (secG l n first a acc).2.2 ∧ (secG l n first a acc).2.2 ≤ l.length ∧ (secG l n first a acc).2.1.length = acc.length + n
  | 0, _, a, acc, _, ha => ⟨Nat.le_refl _, ha, rfl⟩
  | n + 1, first, a, acc, h, ha => by
    rw [secG] at h ⊢
    by_cases h1 : (entX l a first).1 = 0
    · rw [if_pos h1] at h ⊢
      obtain ⟨-, e1, e2⟩ := entX_ok h1
      obtain ⟨g1, g2, g3⟩ := secG_ok n (first + 1) _ _ h e2
      rw [List.length_append, List.length_singleton] at g3
      exact ⟨by omega, g2, by omega⟩
    · rw [if_neg h1] at h; exact absurd h h1
theorem secX_ok {l : List UInt8} {first : Int} {a : Nat} (h : (secX l first a).1 = 0) : a < (secX l first a).2.2 ∧ (secX l first a).2.2 ≤ l.length ∧ (0 ≤ first → (secX l first a).2.1.length ≤ 4096) := by
  unfold secX at h ⊢
  by_cases h1 : (wholeX l a).1 = 0
  · rw [if_pos h1] at h ⊢
    obtain ⟨w0, w1, w2, w3, w4⟩ := wholeX_ok h1
    by_cases h2 : 0 < (wholeX l a).2.1 ∧ 4096 < first + (wholeX l a).2.1
    · rw [if_pos h2] at h; exact absurd h (by decide)
    · rw [if_neg h2] at h ⊢
      obtain ⟨g1, g2, g3⟩ := secG_ok _ _ _ _ h w2
      refine ⟨by omega, g2, fun hf => ?_⟩
      rw [g3, List.length_nil]; omega
  · rw [if_neg h1] at h; exact absurd h h1

/-! ### a text without t -/
theorem tok_sub (l : List UInt8) (k : Nat) : (tokV l k).2.kind = 8 → ∀ b ∈ (tokV l k).2.s, b ∈ l := by
  have hr : ∀ (kind : Int) (x : R3), kind ≠ 8 → (ofR3 kind x).2.kind = 8 → ∀ b ∈ (ofR3 kind x).2.s, b ∈ l := fun kind x hk => by
    unfold ofR3; split
    · exact fun h => absurd h hk
    · exact fun h => absurd (show (0 : Int) = 8 from h) (by decide)
  have z : ∀ (e kd : Int) (to_ : Nat), (((e, ⟨kd, 0, [], false, 0, to_⟩) : Int × Tok)).2.kind = 8 → ∀ b ∈ (((e, ⟨kd, 0, [], false, 0, to_⟩) : Int × Tok)).2.s, b ∈ l := fun _ _ _ _ b hb => by cases hb
  unfold tokV
  cases hd : l.drop k with
  | nil => exact z _ _ _
  | cons b r =>
    simp only []
    split
    · exact z _ _ _
    · split
      · exact z _ _ _
      · split
        · split
          · exact z _ _ _
          · exact hr _ _ (by decide)
        · split
          · split
            · exact z _ _ _
            · exact z _ _ _
          · split
            · exact hr _ _ (by decide)
            · split
              · exact hr _ _ (by decide)
              · split
                · exact z _ _ _
                · unfold wordV
                  split
                  · split <;> (intro _ b hb; cases hb)
                  · intro _ b hb
                    exact List.mem_of_mem_drop (List.mem_of_mem_take hb)
theorem next_sub (l : List UInt8) (a : Int) (h : (nextV l a).2.kind = 8) : ∀ b ∈ (nextV l a).2.s, b ∈ l := by
  unfold nextV at h ⊢
  split
  · rename_i h1
    rw [if_pos h1] at h
    split
    · rename_i h2
      rw [if_pos h2] at h
      exact tok_sub l _ h
    · intro b hb; cases hb
  · intro b hb; cases hb
theorem wd_sub {l : List UInt8} {a : Int} {s : List UInt8} (h : isWd (tokX l a).2 s = true) (hs : s ≠ []) : ∀ b ∈ s, b ∈ l := by
  unfold isWd at h
  rw [Bool.and_eq_true, beq_iff_eq, beq_iff_eq] at h
  obtain ⟨h1, h2⟩ := h
  have h0 : (tokX l a).1 = 0 := by
    by_cases h0 : (tokX l a).1 = 0
    · exact h0
    · exfalso
      have : (tokX l a).2 = zero := by
        unfold tokX at h0 ⊢
        split
        · rename_i h3
          rw [if_pos h3] at h0
          split
          · rfl
          · rename_i h4; rw [if_neg h4] at h0; exact absurd rfl h0
        · rfl
      rw [this] at h1
      exact absurd h1 (by decide)
  rw [(tokX_ok h0).2.1] at h1 h2
  intro b hb
  exact next_sub l a h1 b (by rw [h2]; exact hb)
theorem entsG_no {l : List UInt8} (hl : ∀ b ∈ l, b ≠ 116) : ∀ (F a : Nat) (acc : List Xent), (entsG l F a acc).1 ≠ 0
  | 0, _, _ => by rw [entsG]; decide
  | F + 1, a, acc => by
    rw [entsG]
    split
    · split
      · rename_i h
        exact absurd rfl (hl 116 (wd_sub h (by decide) 116 (by decide)))
      · split
        · split
          · exact entsG_no hl F _ _
          · assumption
        · show (3 : Int) ≠ 0; decide
    · assumption
theorem parse_no {l : List UInt8} (hl : ∀ b ∈ l, b ≠ 116) (a : Int) : (parseX l a).1 ≠ 0 ∧ (parseX l a).2 = ([], Cx.nul) := by
  have h : (entsX l a).1 ≠ 0 := by
    unfold entsX
    split
    · split
      · exact entsG_no hl _ _ _
      · show (3 : Int) ≠ 0; decide
    · assumption
  unfold parseX
  rw [if_neg h]; exact ⟨h, rfl⟩
theorem parse_bad {l : List UInt8} {a : Int} (h : (parseX l a).1 ≠ 0) : (parseX l a).2 = ([], Cx.nul) := by
  unfold parseX at h ⊢
  repeat' split
  all_goals first | rfl | (exfalso; revert h; simp_all)
theorem start_no {l : List UInt8} (hl : ∀ b ∈ l, b ≠ 116) : startX l = (3, 0) := by
  have h : Lib.lastIndex l startT = -1 := by
    unfold Lib.lastIndex
    split
    · rcases Lib.lastOcc_spec l startT (l.length - startT.length + 1) with ⟨e, _⟩ | ⟨i, _, _, ho, _⟩
      · exact e
      · exfalso
        have hp := List.isPrefixOf_iff_prefix.1 (show startT.isPrefixOf (l.drop i) = true from ho)
        obtain ⟨t, ht⟩ := hp
        have : (116 : UInt8) ∈ l.drop i := by rw [← ht]; exact List.mem_append_left _ (by decide)
        exact hl 116 (List.mem_of_mem_drop this) rfl
    · rfl
  unfold startX
  rw [h, if_pos (by decide)]

/-! ### the last word that begins a place -/
def stTail (k : Nat) : List UInt8 := [10, 115, 116, 97, 114, 116, 120, 114, 101, 102, 10, UInt8.ofNat (48 + k / 10), UInt8.ofNat (48 + k % 10), 10, 37, 37, 69, 79, 70]
theorem occ_app (s t sub : List UInt8) (j : Nat) : Lib.occAt (s ++ t) sub (s.length + j) = Lib.occAt t sub j := by
  unfold Lib.occAt; rw [← List.drop_drop, List.drop_left]
theorem st_all : ((List.range 64).all fun k => Lib.occAt (stTail k) startT 1 && ((List.range 20).all fun j => j ≤ 1 || !Lib.occAt (stTail k) startT j) && decide (wholeX (stTail k) 10 = (0, (k : Int), 13))) = true := by kernel_rfl
theorem last_here (s : List UInt8) {k : Nat} (hk : k < 64) : Lib.lastIndex (s ++ stTail k) startT = ((s.length + 1 : Nat) : Int) := by
  have key := List.all_eq_true.1 st_all k (List.mem_range.2 hk)
  simp only [Bool.and_eq_true, List.all_eq_true, List.mem_range, Bool.or_eq_true, decide_eq_true_eq, Bool.not_eq_true'] at key
  obtain ⟨⟨k1, k2⟩, -⟩ := key
  have hlen : (s ++ stTail k).length = s.length + 19 := by rw [List.length_append]; rfl
  unfold Lib.lastIndex
  rw [if_pos (by rw [hlen]; show 9 ≤ _; omega), hlen]
  rcases Lib.lastOcc_spec (s ++ stTail k) startT (s.length + 19 - startT.length + 1) with ⟨e, hn⟩ | ⟨i, hi, e, ho, hn⟩
  · exfalso
    have := hn (s.length + 1) (by show _ < s.length + 19 - 9 + 1; omega)
    rw [occ_app, k1] at this; cases this
  · rw [e]
    have hi9 : i < s.length + 11 := by have : startT.length = 9 := rfl; omega
    rcases Nat.lt_trichotomy i (s.length + 1) with h | h | h
    · exfalso
      have := hn (s.length + 1) h (by have : startT.length = 9 := rfl; omega)
      rw [occ_app, k1] at this; cases this
    · rw [h]
    · exfalso
      have h2 := k2 (i - s.length) (by omega)
      rw [show i = s.length + (i - s.length) by omega, occ_app] at ho
      rcases h2 with h2 | h2
      · omega
      · rw [ho] at h2; cases h2
theorem tok_app (a r : List UInt8) : tokX (a ++ r) a.length = if (tokX r 0).1 = 0 then (0, { (tokX r 0).2 with frm := (tokX r 0).2.frm + a.length, to := (tokX r 0).2.to + a.length }) else ((tokX r 0).1, zero) := by
  unfold tokX
  rw [Cx.next_app]
  by_cases h : (nextV r 0).1 = 0
  · by_cases h2 : (nextV r 0).2.kind = 0
    · simp [h, h2]
    · simp [h, h2]
  · simp [h]
theorem whole_app (a r : List UInt8) : wholeX (a ++ r) a.length = if (wholeX r 0).1 = 0 then (0, (wholeX r 0).2.1, (wholeX r 0).2.2 + a.length) else ((wholeX r 0).1, 0, 0) := by
  unfold wholeX
  rw [tok_app]
  by_cases h : (tokX r 0).1 = 0
  · by_cases h2 : isWh (tokX r 0).2 = true
    · have h3 : isWh { (tokX r 0).2 with frm := (tokX r 0).2.frm + a.length, to := (tokX r 0).2.to + a.length } = true := h2
      simp [h, h2, h3]
    · have h3 : ¬ isWh { (tokX r 0).2 with frm := (tokX r 0).2.frm + a.length, to := (tokX r 0).2.to + a.length } = true := h2
      simp [h, h2, h3]
  · simp [h]
theorem whole_tail {k : Nat} (hk : k < 64) : wholeX (stTail k) 10 = (0, (k : Int), 13) := by
  have key := List.all_eq_true.1 st_all k (List.mem_range.2 hk)
  simp only [Bool.and_eq_true, List.all_eq_true, List.mem_range, Bool.or_eq_true, decide_eq_true_eq, Bool.not_eq_true'] at key
  exact key.2
/-- The place that stands behind the last word that begins it. -/
theorem start_here (s : List UInt8) {k : Nat} (hk : k < 64) : startX (s ++ stTail k) = if s.length + 19 < k then (2, 0) else (0, (k : Int)) := by
  have hlen : (s ++ stTail k).length = s.length + 19 := by rw [List.length_append]; rfl
  have hw : wholeX (s ++ stTail k) (((s.length + 1 : Nat) : Int) + 9) = (0, (k : Int), s.length + 13) := by
    have e : s ++ stTail k = (s ++ [10, 115, 116, 97, 114, 116, 120, 114, 101, 102]) ++ (stTail k).drop 10 := by simp [stTail]
    have e2 : stTail k = [10, 115, 116, 97, 114, 116, 120, 114, 101, 102] ++ (stTail k).drop 10 := rfl
    have h1 := whole_app (s ++ [10, 115, 116, 97, 114, 116, 120, 114, 101, 102]) ((stTail k).drop 10)
    have h2 := whole_app [10, 115, 116, 97, 114, 116, 120, 114, 101, 102] ((stTail k).drop 10)
    rw [← e2] at h2
    have h3 := whole_tail hk
    rw [show ((([10, 115, 116, 97, 114, 116, 120, 114, 101, 102] : List UInt8)).length : Int) = 10 from rfl, h3] at h2
    have hc : (wholeX ((stTail k).drop 10) 0).1 = 0 := by
      by_cases hc : (wholeX ((stTail k).drop 10) 0).1 = 0
      · exact hc
      · rw [if_neg hc] at h2
        exact absurd (congrArg Prod.fst h2).symm hc
    rw [if_pos hc] at h1 h2
    have h4 : (k : Int) = (wholeX ((stTail k).drop 10) 0).2.1 := congrArg (fun x => x.2.1) h2
    have h5 : 13 = (wholeX ((stTail k).drop 10) 0).2.2 + 10 := congrArg (fun x => x.2.2) h2
    have e3 : (((s.length + 1 : Nat) : Int) + 9) = ((s ++ [10, 115, 116, 97, 114, 116, 120, 114, 101, 102]).length : Int) := by rw [List.length_append]; simp; omega
    rw [e3, e, h1, ← h4, List.length_append]
    simp; omega
  unfold startX
  rw [last_here s hk, if_neg (by omega), hw, if_neg (show ¬ (0 : Int) = 4 by decide), if_pos rfl, hlen]
  by_cases h : s.length + 19 < k
  · rw [if_pos h, if_pos (by simp; omega)]
  · rw [if_neg h, if_neg (by simp; omega)]

end Go.Proofs.YtnmehngedljgoaaGreatDoor.Rx

namespace Go.Proofs.YtnmehngedljgoaaGreatDoor.Rx
open Lx
set_option linter.unusedSimpArgs false
set_option linter.unusedVariables false

def Ws (ws : List UInt8) : Prop := ∀ b ∈ ws, white b = true
theorem spc_ws : ∀ (ws r : List UInt8), Ws ws → spc false (ws ++ r) = ws.length + spc false r
  | [], r, _ => by simp
  | b :: ws, r, h => by
    rw [List.cons_append, spc, if_pos (h b List.mem_cons_self), spc_ws ws r (fun c hc => h c (List.mem_cons_of_mem _ hc)), List.length_cons]; omega
theorem tw_app {p : UInt8 → Bool} : ∀ (w : List UInt8) (s : UInt8) (rest : List UInt8), (∀ b ∈ w, p b = true) → p s = false → tw p (w ++ s :: rest) = w.length
  | [], s, rest, _, h => by rw [List.nil_append, tw, h]; rfl
  | b :: w, s, rest, hw, h => by
    rw [List.cons_append, tw, if_pos (hw b List.mem_cons_self), tw_app w s rest (fun c hc => hw c (List.mem_cons_of_mem _ hc)) h, List.length_cons]
theorem reg_not {b : UInt8} (h : reg b = true) : white b = false ∧ b ≠ 37 ∧ (b == 91) = false ∧ (b == 93) = false ∧ (b == 60) = false ∧ (b == 62) = false ∧ (b == 47) = false ∧ (b == 40) = false ∧ (b == 41 || b == 123 || b == 125) = false := by
  have := byte_all (fun b => !reg b || (!white b && !(b == 37) && !(b == 91) && !(b == 93) && !(b == 60) && !(b == 62) && !(b == 47) && !(b == 40) && !(b == 41 || b == 123 || b == 125))) (by kernel_rfl) b
  rw [h] at this
  simp only [Bool.not_true, Bool.false_or, Bool.and_eq_true, Bool.not_eq_true', and_assoc] at this
  obtain ⟨h1, h2, h3⟩ := this
  exact ⟨h1, by simpa using h2, h3⟩
/-- A Word or a Number alone. -/
def wordE (w : List UInt8) : Int × Tok := if numB (w.headD 0) then (if Fx.parseE w = 0 then (0, ⟨1, Fx.parseV w, [], !pointIn w, 0, 0⟩) else (Fx.parseE w, zero)) else (0, ⟨8, 0, w, false, 0, 0⟩)
theorem next_wordE (ws w : List UInt8) (s : UInt8) (rest : List UInt8) (hws : Ws ws) (hw : w ≠ []) (hr : ∀ b ∈ w, reg b = true) (hs : reg s = false) :
    nextV (ws ++ (w ++ s :: rest)) 0 = if (wordE w).1 = 0 then (0, { (wordE w).2 with frm := ws.length, to := ws.length + w.length }) else ((wordE w).1, zero) := by
  obtain ⟨b, v, rfl⟩ : ∃ b v, w = b :: v := by
    cases w with
    | nil => exact absurd rfl hw
    | cons b v => exact ⟨b, v, rfl⟩
  obtain ⟨n1, n2, n3, n4, n5, n6, n7, n8, n9⟩ := reg_not (hr b List.mem_cons_self)
  have hsp : spc false (ws ++ (b :: v ++ s :: rest)) = ws.length := by
    rw [spc_ws ws _ hws, List.cons_append, spc, if_neg (by rw [n1]; decide), if_neg (by simpa using n2)]; rfl
  have hd : (ws ++ (b :: v ++ s :: rest)).drop ws.length = b :: (v ++ s :: rest) := by rw [List.drop_left]; rfl
  have htw : tw reg (b :: (v ++ s :: rest)) = (b :: v).length := tw_app (b :: v) s rest hr hs
  have htk : (b :: (v ++ s :: rest)).take (b :: v).length = b :: v := by rw [← List.cons_append, List.take_left]
  have ht : tokV (ws ++ (b :: v ++ s :: rest)) ws.length = if (wordE (b :: v)).1 = 0 then (0, { (wordE (b :: v)).2 with to := ws.length + (b :: v).length }) else ((wordE (b :: v)).1, zero) := by
    unfold tokV
    rw [hd]
    simp only [n3, n4, n5, n6, n7, n8, n9, Bool.false_eq_true, if_false]
    unfold wordV
    rw [hd, htw, htk]
    unfold wordE
    have hh1 : (b :: (v ++ s :: rest)).headD 0 = b := rfl
    have hh2 : (b :: v).headD 0 = b := rfl
    rw [hh1, hh2]
    by_cases hn : numB b = true
    · rw [if_pos hn, if_pos hn]
      by_cases hp : Fx.parseE (b :: v) = 0
      · simp only [hp, if_true]
      · simp only [hp, if_false]
    · rw [if_neg hn, if_neg hn]
      simp only [if_true]
  rw [next_zero, hsp, ht]
  by_cases he : (wordE (b :: v)).1 = 0
  · simp only [he, if_true]
  · simp only [he, if_false]

theorem dig_is {b : UInt8} (h : Fx.isDig b = true) : reg b = true ∧ numB b = true ∧ b ≠ 46 := by
  have := byte_all (fun b => !Fx.isDig b || (reg b && numB b && !(b == 46))) (by kernel_rfl) b
  rw [h] at this
  simp only [Bool.not_true, Bool.false_or, Bool.and_eq_true, Bool.not_eq_true', and_assoc] at this
  exact ⟨this.1, this.2.1, by simpa using this.2.2⟩
theorem noPoint : ∀ l : List UInt8, (∀ b ∈ l, b ≠ 46) → Lib.indexByte l 46 = -1
  | [], _ => rfl
  | b :: l, h => by
    rw [Lib.indexByte, noPoint l (fun c hc => h c (List.mem_cons_of_mem _ hc)), if_neg (by simpa using h b List.mem_cons_self)]; rfl
/-- Digits that are a number that is not too great. -/
def Num (w : List UInt8) (u : Int) : Prop := Fx.allDig w = true ∧ w ≠ [] ∧ w.length ≤ 400 ∧ Fx.grownAll 0 w = u ∧ 0 ≤ u ∧ u ≤ 2147483
theorem wordE_num {w : List UInt8} {u : Int} (h : Num w u) : wordE w = (0, ⟨1, 1000 * u, [], true, 0, 0⟩) := by
  obtain ⟨h1, h2, h3, h4, h5, h6⟩ := h
  obtain ⟨t1, t2⟩ := Fx.text_val (r := 0) h1 h2 h4 h5 h6 (by omega) (by omega)
  rw [show Fx.partT 0 = [] from rfl, List.append_nil] at t1 t2
  obtain ⟨s1, s2⟩ := Fx.sign_digits (r := []) h1 h2
  rw [List.append_nil] at s1 s2
  have hnum : Fx.numOf w = 1000 * u := by unfold Fx.numOf; rw [s1, s2, if_neg (by simp), t2]; omega
  obtain ⟨p1, p2⟩ := Fx.parse_num (l := w) (by omega) (by rw [s2]; exact t1)
  have hs : Fx.saneB (1000 * u) = true := by rw [Fx.sane_iff]; omega
  rw [hnum, (Fx.chk_sane hs).1] at p1
  rw [hnum, (Fx.chk_sane hs).2] at p2
  have hp : pointIn w = false := by
    unfold pointIn
    rw [noPoint w (fun b hb => (dig_is (Fx.allDig_mem h1 hb)).2.2)]; rfl
  have hh : numB (w.headD 0) = true := by
    cases w with
    | nil => exact absurd rfl h2
    | cons b v => exact (dig_is (Fx.allDig_mem h1 List.mem_cons_self)).2.1
  unfold wordE
  rw [if_pos hh, if_pos p2, p1, hp]; rfl
theorem tok_num (pre ws w : List UInt8) (s : UInt8) (rest : List UInt8) {u : Int} (hws : Ws ws) (h : Num w u) (hs : reg s = false) :
    tokX (pre ++ (ws ++ (w ++ s :: rest))) pre.length = (0, ⟨1, 1000 * u, [], true, ws.length + pre.length, ws.length + w.length + pre.length⟩) := by
  have hn := next_wordE ws w s rest hws h.2.1 (fun b hb => (dig_is (Fx.allDig_mem h.1 hb)).1) hs
  rw [wordE_num h, if_pos rfl] at hn
  have : tokX (ws ++ (w ++ s :: rest)) 0 = (0, ⟨1, 1000 * u, [], true, ws.length, ws.length + w.length⟩) := by unfold tokX; rw [hn]; rfl
  rw [tok_app, this]; rfl
theorem isWh_num (u : Int) (a b : Nat) (h : 0 ≤ u) : isWh ⟨1, 1000 * u, [], true, a, b⟩ = true := isWh_iff.2 ⟨rfl, rfl, by show 0 ≤ 1000 * u; omega⟩
theorem tdiv_num {u : Int} (h : 0 ≤ u) : (1000 * u).tdiv 1000 = u := by rw [Int.tdiv_eq_ediv_of_nonneg (by omega)]; omega
theorem whole_at (pre ws w : List UInt8) (s : UInt8) (rest : List UInt8) {u : Int} (hws : Ws ws) (h : Num w u) (hs : reg s = false) :
    wholeX (pre ++ (ws ++ (w ++ s :: rest))) pre.length = (0, u, (pre ++ (ws ++ w)).length) := by
  unfold wholeX
  rw [tok_num pre ws w s rest hws h hs, if_pos rfl, if_pos (isWh_num u _ _ h.2.2.2.2.1)]
  simp only [tdiv_num h.2.2.2.2.1, List.length_append]
  congr 2; omega
theorem word_at (pre ws w : List UInt8) (s : UInt8) (rest : List UInt8) (hws : Ws ws) (hw : w ≠ []) (hr : ∀ b ∈ w, reg b = true) (hn : numB (w.headD 0) = false) (hs : reg s = false) :
    tokX (pre ++ (ws ++ (w ++ s :: rest))) pre.length = (0, ⟨8, 0, w, false, ws.length + pre.length, (pre ++ (ws ++ w)).length⟩) := by
  have h := next_wordE ws w s rest hws hw hr hs
  have he : wordE w = (0, ⟨8, 0, w, false, 0, 0⟩) := by unfold wordE; rw [hn]; rfl
  rw [he, if_pos rfl] at h
  have : tokX (ws ++ (w ++ s :: rest)) 0 = (0, ⟨8, 0, w, false, ws.length, ws.length + w.length⟩) := by unfold tokX; rw [h]; rfl
  rw [tok_app, this, List.length_append, List.length_append, Nat.add_comm pre.length]; rfl

theorem dec_num {n : Nat} (h : n ≤ 2147483) : Num (Lib.decDigits n) n :=
  ⟨Fx.dec_all n, Fx.dec_ne n, by rw [Lib.decDigits_length]; have := Fx.nDigits_le 6 n (by omega); omega, Fx.dec_val n (by omega), by omega, by omega⟩
theorem grown_zeros (l : List UInt8) : ∀ k, Fx.grownAll 0 (List.replicate k 48 ++ l) = Fx.grownAll 0 l
  | 0 => rfl
  | k + 1 => by rw [List.replicate_succ, List.cons_append]; exact grown_zeros l k
theorem zeros_all : ∀ k, Fx.allDig (List.replicate k 48) = true
  | 0 => rfl
  | k + 1 => by rw [List.replicate_succ, Fx.allDig_cons]; exact ⟨rfl, zeros_all k⟩
theorem digs_num {k n : Nat} (hk : k + 1 ≤ 400) (hn : n < 10 ^ (k + 1)) (h : n ≤ 2147483) : Num (digs (k + 1) n) n := by
  have e := digs_dec k n hn
  refine ⟨?_, ?_, by rw [digs_len]; exact hk, ?_, by omega, by omega⟩
  · rw [e, Fx.allDig_append]; exact ⟨zeros_all _, Fx.dec_all n⟩
  · intro h0; have := digs_len (k + 1) n; rw [h0] at this; cases this
  · rw [e, grown_zeros]; exact Fx.dec_val n (by omega)

/-- What may be written, and read again. -/
def Good (e : Xent) : Prop := 0 ≤ e.n ∧ e.n < 4096 ∧ 0 ≤ e.off ∧ e.off ≤ 2147483 ∧ 0 ≤ e.gen ∧ e.gen ≤ 99999
theorem ws_one : Ws [32] := fun b hb => by simp at hb; subst hb; rfl
theorem ws_two : Ws [32, 10] := fun b hb => by simp at hb; rcases hb with rfl | rfl <;> rfl
theorem ws_lf : Ws [10] := fun b hb => by simp at hb; subst hb; rfl
theorem ent_at (pre ws rest : List UInt8) (e : Xent) (hws : Ws ws) (he : Good e) (T : List UInt8) (hT : T = pre ++ (ws ++ (lineT e ++ rest))) :
    ∃ pre', T = pre' ++ ([32, 10] ++ rest) ∧ entX T pre.length e.n = (0, e, pre'.length) := by
  obtain ⟨g1, g2, g3, g4, g5, g6⟩ := he
  have n1 : Num (digs 10 e.off.toNat) e.off := by
    have := digs_num (k := 9) (n := e.off.toNat) (by omega) (by omega) (by omega)
    rwa [show ((e.off.toNat : Nat) : Int) = e.off by omega] at this
  have n2 : Num (digs 5 e.gen.toNat) e.gen := by
    have := digs_num (k := 4) (n := e.gen.toNat) (by omega) (by omega) (by omega)
    rwa [show ((e.gen.toNat : Nat) : Int) = e.gen by omega] at this
  obtain ⟨c, hc, hcr, hcn, hcu, hcw⟩ : ∃ c : UInt8, (if e.used then [32, 110, 32, 10] else [32, 102, 32, 10]) = [32, c, 32, 10] ∧ reg c = true ∧ numB c = false ∧ (([c] : List UInt8) == [110]) = e.used ∧ ((([c] : List UInt8) == [110]) || (([c] : List UInt8) == [102])) = true := by
    cases e.used
    · exact ⟨102, rfl, rfl, rfl, rfl, rfl⟩
    · exact ⟨110, rfl, rfl, rfl, rfl, rfl⟩
  have e1 : T = pre ++ (ws ++ (digs 10 e.off.toNat ++ 32 :: (digs 5 e.gen.toNat ++ [32, c, 32, 10] ++ rest))) := by rw [hT, lineT, hc]; simp
  have e2 : T = (pre ++ (ws ++ digs 10 e.off.toNat)) ++ ([32] ++ (digs 5 e.gen.toNat ++ 32 :: ([c, 32, 10] ++ rest))) := by rw [e1]; simp
  have e3 : T = ((pre ++ (ws ++ digs 10 e.off.toNat)) ++ ([32] ++ digs 5 e.gen.toNat)) ++ ([32] ++ ([c] ++ 32 :: (10 :: rest))) := by rw [e2]; simp
  have e4 : T = (((pre ++ (ws ++ digs 10 e.off.toNat)) ++ ([32] ++ digs 5 e.gen.toNat)) ++ ([32] ++ [c])) ++ ([32, 10] ++ rest) := by rw [e3]; simp
  have w1 := whole_at pre ws _ 32 (digs 5 e.gen.toNat ++ [32, c, 32, 10] ++ rest) hws n1 rfl
  rw [← e1] at w1
  have w2 := whole_at (pre ++ (ws ++ digs 10 e.off.toNat)) [32] _ 32 ([c, 32, 10] ++ rest) ws_one n2 rfl
  rw [← e2] at w2
  have w3 := word_at ((pre ++ (ws ++ digs 10 e.off.toNat)) ++ ([32] ++ digs 5 e.gen.toNat)) [32] [c] 32 (10 :: rest) ws_one (by simp) (fun b hb => by simp at hb; subst hb; exact hcr) hcn rfl
  rw [← e3] at w3
  refine ⟨_, e4, ?_⟩
  have d1 : isWd ⟨8, 0, [c], false, ([32] : List UInt8).length + ((pre ++ (ws ++ digs 10 e.off.toNat)) ++ ([32] ++ digs 5 e.gen.toNat)).length, (((pre ++ (ws ++ digs 10 e.off.toNat)) ++ ([32] ++ digs 5 e.gen.toNat)) ++ ([32] ++ [c])).length⟩ [110] = (([c] : List UInt8) == [110]) := rfl
  have d2 : isWd ⟨8, 0, [c], false, ([32] : List UInt8).length + ((pre ++ (ws ++ digs 10 e.off.toNat)) ++ ([32] ++ digs 5 e.gen.toNat)).length, (((pre ++ (ws ++ digs 10 e.off.toNat)) ++ ([32] ++ digs 5 e.gen.toNat)) ++ ([32] ++ [c])).length⟩ [102] = (([c] : List UInt8) == [102]) := rfl
  unfold entX
  rw [w1, if_pos rfl, w2, if_pos rfl]
  simp only []
  unfold entT
  rw [w3, if_pos rfl]
  simp only []
  rw [d1, d2, if_pos hcw, hcu]

/-- Numbers one behind the other. -/
def Cons : Int → List Xent → Prop
  | _, [] => True
  | n, e :: r => e.n = n ∧ Cons (n + 1) r
theorem cons_runF : ∀ (l : List Xent) (n : Int), Cons n (l.take (runF n l))
  | [], _ => trivial
  | e :: r, n => by
    by_cases h : e.n = n
    · rw [runF, if_pos h, List.take_succ_cons]; exact ⟨h, cons_runF r (n + 1)⟩
    · rw [runF, if_neg h]; exact trivial
theorem cons_last : ∀ (l : List Xent) (n : Int), Cons n l → l ≠ [] → ∃ e ∈ l, e.n = n + l.length - 1
  | [], _, _, h => absurd rfl h
  | [e], n, h, _ => ⟨e, List.mem_cons_self, by rw [h.1]; simp⟩
  | e :: f :: r, n, h, _ => by
    obtain ⟨g, hg, h2⟩ := cons_last (f :: r) (n + 1) h.2 (by simp)
    exact ⟨g, List.mem_cons_of_mem _ hg, by rw [h2]; simp; omega⟩
theorem secG_at (rest : List UInt8) (T : List UInt8) : ∀ (es : List Xent) (first : Int) (acc : List Xent) (pre ws : List UInt8), Ws ws → Cons first es → (∀ e ∈ es, Good e) → T = pre ++ (ws ++ (es.flatMap lineT ++ rest)) →
    ∃ pre' ws', Ws ws' ∧ T = pre' ++ (ws' ++ rest) ∧ secG T es.length first pre.length acc = (0, acc ++ es, pre'.length)
  | [], first, acc, pre, ws, hws, _, _, hT => ⟨pre, ws, hws, hT, by rw [List.append_nil]; rfl⟩
  | e :: es, first, acc, pre, ws, hws, hc, hg, hT => by
    obtain ⟨rfl, hc2⟩ := hc
    rw [List.flatMap_cons, List.append_assoc] at hT
    obtain ⟨pre1, h1, h2⟩ := ent_at pre ws _ e hws (hg e List.mem_cons_self) T hT
    obtain ⟨pre2, ws2, g1, g2, g3⟩ := secG_at rest T es (e.n + 1) (acc ++ [e]) pre1 [32, 10] ws_two hc2 (fun x hx => hg x (List.mem_cons_of_mem _ hx)) h1
    refine ⟨pre2, ws2, g1, g2, ?_⟩
    rw [List.length_cons, secG, h2, if_pos rfl, g3, List.append_assoc]; rfl
theorem secX_at (rest T pre ws : List UInt8) (es : List Xent) (first : Int) (hws : Ws ws) (hne : es ≠ []) (hc : Cons first es) (hg : ∀ e ∈ es, Good e) (h0 : 0 ≤ first) (hT : T = pre ++ (ws ++ (Lib.decDigits es.length ++ 10 :: (es.flatMap lineT ++ rest)))) :
    ∃ pre' ws', Ws ws' ∧ T = pre' ++ (ws' ++ rest) ∧ secX T first pre.length = (0, es, pre'.length) := by
  obtain ⟨e, he, hn⟩ := cons_last es first hc hne
  have hlt := (hg e he).2.1
  have w1 := whole_at pre ws _ 10 (es.flatMap lineT ++ rest) hws (dec_num (n := es.length) (by omega)) rfl
  rw [← hT] at w1
  have e1 : T = (pre ++ (ws ++ Lib.decDigits es.length)) ++ ([10] ++ (es.flatMap lineT ++ rest)) := by rw [hT]; simp
  obtain ⟨pre2, ws2, g1, g2, g3⟩ := secG_at rest T es first [] _ [10] ws_lf hc hg e1
  refine ⟨pre2, ws2, g1, g2, ?_⟩
  unfold secX
  rw [w1, if_pos rfl]
  simp only []
  rw [if_neg (by omega), Int.toNat_natCast, g3]; rfl
theorem ents_at (rest T : List UInt8) : ∀ (m : Nat) (l : List Xent) (pre ws : List UInt8), l.length ≤ m → Ws ws → (∀ e ∈ l, Good e) → T = pre ++ (ws ++ (bodyT none l ++ rest)) →
    ∃ c, c ≤ l.length ∧ ∃ pre' ws', Ws ws' ∧ T = pre' ++ (ws' ++ rest) ∧ ∀ F acc, entsG T (F + c) pre.length acc = entsG T F pre'.length (acc ++ l)
  | _, [], pre, ws, _, hws, _, hT => ⟨0, Nat.le_refl _, pre, ws, hws, by rw [bodyT] at hT; exact hT, fun F acc => by rw [List.append_nil]; rfl⟩
  | 0, e :: r, _, _, hm, _, _, _ => absurd hm (by simp)
  | m + 1, e :: r, pre, ws, hm, hws, hg, hT => by
    obtain ⟨l, hl⟩ : ∃ l, l = e :: r := ⟨_, rfl⟩
    rw [← hl] at hm hg hT ⊢
    have hpos := runL_pos (l := l) (by rw [hl]; simp)
    have hle := runL_le l
    have hcon : Cons e.n (l.take (runL l)) := by
      rw [hl, runL, List.take_succ_cons]; exact ⟨rfl, cons_runF r (e.n + 1)⟩
    have htl : (l.take (runL l)).length = runL l := by rw [List.length_take]; omega
    have hgt : ∀ x ∈ l.take (runL l), Good x := fun x hx => hg x (List.mem_of_mem_take hx)
    have hge := hg e (by rw [hl]; exact List.mem_cons_self)
    have hne : l.take (runL l) ≠ [] := fun h => by rw [h] at htl; simp at htl; omega
    rw [body_run hl] at hT
    have e1 : T = pre ++ (ws ++ (Lib.decDigits e.n.toNat ++ 32 :: (Lib.decDigits (runL l) ++ [10] ++ (l.take (runL l)).flatMap lineT ++ (bodyT none (l.drop (runL l)) ++ rest)))) := by rw [hT, headT]; simp
    have e2 : T = (pre ++ (ws ++ Lib.decDigits e.n.toNat)) ++ ([32] ++ (Lib.decDigits (l.take (runL l)).length ++ 10 :: ((l.take (runL l)).flatMap lineT ++ (bodyT none (l.drop (runL l)) ++ rest)))) := by rw [e1, htl]; simp
    have w1 := tok_num pre ws _ 32 (Lib.decDigits (runL l) ++ [10] ++ (l.take (runL l)).flatMap lineT ++ (bodyT none (l.drop (runL l)) ++ rest)) hws (dec_num (n := e.n.toNat) (by have := hge.2.1; omega)) rfl
    rw [← e1] at w1
    obtain ⟨pre2, ws2, g1, g2, g3⟩ := secX_at _ T _ [32] _ e.n ws_one hne hcon hgt hge.1 e2
    obtain ⟨c, hc, pre3, ws3, q1, q2, q3⟩ := ents_at rest T m (l.drop (runL l)) pre2 ws2 (by rw [List.length_drop]; omega) g1 (fun x hx => hg x (List.mem_of_mem_drop hx)) g2
    refine ⟨c + 1, by rw [List.length_drop] at hc; omega, pre3, ws3, q1, q2, fun F acc => ?_⟩
    have hto : ws.length + (Lib.decDigits e.n.toNat).length + pre.length = (pre ++ (ws ++ Lib.decDigits e.n.toNat)).length := by rw [List.length_append, List.length_append]; omega
    have hnn : ((e.n.toNat : Nat) : Int) = e.n := by have := hge.1; omega
    rw [show F + (c + 1) = (F + c) + 1 by omega, entsG, w1, if_pos rfl, if_neg (by unfold isWd; simp), if_pos (isWh_num _ _ _ (by omega))]
    simp only []
    rw [tdiv_num (by omega), hnn, hto, g3, if_pos rfl, q3, List.append_assoc, List.take_append_drop]

/-- The trailer that the law lays behind. -/
def trail (more : List UInt8) : List UInt8 := trailT ++ ([60, 60, 47, 83, 105, 122, 101, 32, 55, 62, 62] ++ more)
theorem next_size (r : List UInt8) : nextV (47 :: 83 :: 105 :: 122 :: 101 :: 32 :: r) 0 = (0, ⟨2, 0, [83, 105, 122, 101], false, 0, 5⟩) := by rw [next_zero]; rfl
theorem trail_reads (pre more : List UInt8) : ∃ k, Cx.parse (pre ++ ([60, 60, 47, 83, 105, 122, 101, 32, 55, 62, 62] ++ more)) pre.length = (0, .mk 6 0 0 ⟨#[]⟩ [] [(Cx.str [83, 105, 122, 101], .mk 2 1 7000 ⟨#[]⟩ [] [])], k) := by
  obtain ⟨T, hT⟩ : ∃ T, T = pre ++ ([60, 60, 47, 83, 105, 122, 101, 32, 55, 62, 62] ++ more) := ⟨_, rfl⟩
  have e1 : T = pre ++ (60 :: 60 :: ([47, 83, 105, 122, 101, 32, 55, 62, 62] ++ more)) := hT
  have e2 : T = (pre ++ [60, 60]) ++ (47 :: 83 :: 105 :: 122 :: 101 :: 32 :: ([55, 62, 62] ++ more)) := by rw [hT]; simp
  have e3 : T = (pre ++ [60, 60] ++ [47, 83, 105, 122, 101]) ++ (32 :: ([55, 62, 62] ++ more)) := by rw [hT]; simp
  have e4 : T = (pre ++ [60, 60] ++ [47, 83, 105, 122, 101] ++ [32]) ++ (55 :: ([62, 62] ++ more)) := by rw [hT]; simp
  have e5 : T = (pre ++ [60, 60] ++ [47, 83, 105, 122, 101] ++ [32] ++ [55]) ++ (62 :: 62 :: more) := by rw [hT]; simp
  have t1 := Cx.isTok_app pre _ (Cx.next_dict ([47, 83, 105, 122, 101, 32, 55, 62, 62] ++ more))
  rw [← e1] at t1
  have t2 := Cx.isTok_app (pre ++ [60, 60]) _ (next_size ([55, 62, 62] ++ more))
  rw [← e2] at t2
  have r4 := Cx.nest_reads false 0 (pre ++ [60, 60] ++ [47, 83, 105, 122, 101] ++ [32]) (62 :: 62 :: more) 1 (by omega) (Cx.suf_fin more)
  rw [show (Cx.nest false 0 ++ (62 :: 62 :: more)) = 55 :: ([62, 62] ++ more) from rfl, ← e4] at r4
  have t5 := Cx.isTok_app (pre ++ [60, 60] ++ [47, 83, 105, 122, 101] ++ [32] ++ [55]) _ (Cx.next_fin more)
  rw [← e5] at t5
  have hsp := Cx.next_white (pre ++ [60, 60] ++ [47, 83, 105, 122, 101]) ([55, 62, 62] ++ more)
  rw [← e3] at hsp
  simp only [List.length_append, List.length_cons, List.length_nil, Nat.zero_add, Nat.reduceAdd] at t1 t2 r4 t5 hsp
  have h := Cx.dict_reads (by decide) (Cx.nestO_k false 0) t1 t2 ((Cx.next_to hsp).1 r4) t5
  obtain ⟨h0, -, -, h3, -⟩ := h
  refine ⟨pre.length + 2 + 5 + 1 + 1 + 2, ?_⟩
  rw [← hT]
  unfold Cx.parse
  rw [if_neg (by rw [h0]; decide)]
  exact h3 _ (by rw [hT]; simp; omega)

theorem tokX_nil (pre : List UInt8) : tokX (pre ++ []) pre.length = (4, zero) := by
  rw [tok_app]; rfl
theorem tokX_ws (pre ws : List UInt8) (h : Ws ws) : tokX (pre ++ (ws ++ [])) pre.length = (4, zero) := by
  have hn : nextV (ws ++ []) 0 = (0, ⟨0, 0, [], false, ws.length, ws.length⟩) := by
    have this : tokV (ws ++ []) ws.length = (0, ⟨0, 0, [], false, 0, ws.length⟩) := by unfold tokV; rw [List.drop_left]
    rw [next_zero, spc_ws ws [] h, show spc false [] = 0 from rfl, Nat.add_zero, this]; rfl
  have : tokX (ws ++ []) 0 = (4, zero) := by unfold tokX; rw [hn]; rfl
  rw [tok_app, this]; rfl
theorem xref_tok (r : List UInt8) : tokX (xrefT ++ r) 0 = (0, ⟨8, 0, [120, 114, 101, 102], false, 0, 4⟩) := by
  have := word_at [] [] [120, 114, 101, 102] 10 r (fun b hb => by cases hb) (by simp) (by decide) rfl rfl
  exact this
/-- What was written is read. -/
theorem back_reads (l : List Xent) (more : List UInt8) (hg : ∀ e ∈ l, Good e) : ∃ o, parseX (writeT l ++ (trailT ++ ([60, 60, 47, 83, 105, 122, 101, 32, 55, 62, 62] ++ more))) 0 = (0, l, o) ∧ o = .mk 6 0 0 ⟨#[]⟩ [] [(Cx.str [83, 105, 122, 101], .mk 2 1 7000 ⟨#[]⟩ [] [])] := by
  obtain ⟨rest, hrest⟩ : ∃ rest, rest = trailT ++ ([60, 60, 47, 83, 105, 122, 101, 32, 55, 62, 62] ++ more) := ⟨_, rfl⟩
  rw [← hrest]
  obtain ⟨T, hT⟩ : ∃ T, T = writeT l ++ rest := ⟨_, rfl⟩
  have e1 : T = [120, 114, 101, 102] ++ ([10] ++ (bodyT none l ++ rest)) := by rw [hT, writeT, xrefT]; simp
  have e0 : T = xrefT ++ (bodyT none l ++ rest) := by rw [hT, writeT]; simp
  obtain ⟨c, hc, pre', ws', g1, g2, g3⟩ := ents_at rest T l.length l [120, 114, 101, 102] [10] (Nat.le_refl _) ws_lf hg e1
  have hx := xref_tok (bodyT none l ++ rest)
  rw [← e0] at hx
  have e2 : T = pre' ++ (ws' ++ (trailT ++ 60 :: ([60, 47, 83, 105, 122, 101, 32, 55, 62, 62] ++ more))) := by rw [g2, hrest]; rfl
  have e3 : T = (pre' ++ (ws' ++ trailT)) ++ ([60, 60, 47, 83, 105, 122, 101, 32, 55, 62, 62] ++ more) := by rw [g2, hrest]; simp
  have ht := word_at pre' ws' trailT 60 ([60, 47, 83, 105, 122, 101, 32, 55, 62, 62] ++ more) g1 (by decide) (by decide) rfl rfl
  rw [← e2] at ht
  obtain ⟨k, hp⟩ := trail_reads (pre' ++ (ws' ++ trailT)) more
  rw [← e3] at hp
  have hcl : c ≤ T.length := by
    refine Nat.le_trans hc ?_
    have h1 : ∀ (l : List Xent) (p : Option Int), l.length ≤ (bodyT p l).length := by
      intro l
      induction l with
      | nil => intro p; exact Nat.zero_le _
      | cons e r ih =>
        intro p
        have h2 := ih (some e.n)
        have h3 : 1 ≤ (lineT e).length := by unfold lineT; simp; omega
        rw [bodyT]; simp only [List.length_append, List.length_cons]; omega
    have h2 := h1 l none
    rw [e0]; simp only [List.length_append]; omega
  have he : entsX T 0 = (0, l, (pre' ++ (ws' ++ trailT)).length) := by
    unfold entsX
    rw [hx, if_pos rfl, if_pos (show isWd _ _ = true from rfl)]
    have h4 := g3 (T.length + 2 - c) []
    rw [show T.length + 2 - c + c = T.length + 2 by omega] at h4
    rw [show (4 : Nat) = ([120, 114, 101, 102] : List UInt8).length from rfl, h4]
    obtain ⟨F, hF⟩ : ∃ F, T.length + 2 - c = F + 1 := ⟨T.length + 1 - c, by omega⟩
    rw [hF, entsG, ht, if_pos rfl, if_pos (show isWd _ _ = true from rfl)]; rfl
  refine ⟨_, ?_, rfl⟩
  rw [← hT]
  unfold parseX
  rw [he, if_pos rfl, hp]; rfl
/-- Without a trailer it is too short. -/
theorem back_short (l : List Xent) (hg : ∀ e ∈ l, Good e) : (parseX (writeT l) 0).1 = 4 := by
  obtain ⟨T, hT⟩ : ∃ T, T = writeT l := ⟨_, rfl⟩
  have e1 : T = [120, 114, 101, 102] ++ ([10] ++ (bodyT none l ++ [])) := by rw [hT, writeT, xrefT]; simp
  have e0 : T = xrefT ++ bodyT none l := by rw [hT, writeT]
  obtain ⟨c, hc, pre', ws', g1, g2, g3⟩ := ents_at [] T l.length l [120, 114, 101, 102] [10] (Nat.le_refl _) ws_lf hg e1
  have hx := xref_tok (bodyT none l)
  rw [← e0] at hx
  have ht := tokX_ws pre' ws' g1
  rw [← g2] at ht
  have hcl : c ≤ T.length := by
    refine Nat.le_trans hc ?_
    have h1 : ∀ (l : List Xent) (p : Option Int), l.length ≤ (bodyT p l).length := by
      intro l
      induction l with
      | nil => intro p; exact Nat.zero_le _
      | cons e r ih =>
        intro p
        have h2 := ih (some e.n)
        have h3 : 1 ≤ (lineT e).length := by unfold lineT; simp; omega
        rw [bodyT]; simp only [List.length_append, List.length_cons]; omega
    have h2 := h1 l none
    rw [e0]; simp only [List.length_append]; omega
  have he : (entsX T 0).1 = 4 := by
    unfold entsX
    rw [hx, if_pos rfl, if_pos (show isWd _ _ = true from rfl)]
    have h4 := g3 (T.length + 2 - c) []
    rw [show T.length + 2 - c + c = T.length + 2 by omega] at h4
    rw [show (4 : Nat) = ([120, 114, 101, 102] : List UInt8).length from rfl, h4]
    obtain ⟨F, hF⟩ : ∃ F, T.length + 2 - c = F + 1 := ⟨T.length + 1 - c, by omega⟩
    rw [hF, entsG, ht, if_neg (show ¬ (4 : Int) = 0 by decide)]
  rw [← hT]
  unfold parseX
  rw [if_neg (by rw [he]; decide)]; exact he

end Go.Proofs.YtnmehngedljgoaaGreatDoor.Rx
