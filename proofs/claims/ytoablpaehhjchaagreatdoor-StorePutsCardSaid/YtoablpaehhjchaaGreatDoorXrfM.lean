import Derived.WalkKit
import Derived.KernelRfl
import Derived.Test.YtoablpaehhjchaaGreatDoorFixMs
import Derived.Lib.Repeat
import Derived.Test.YtoablpaehhjchaaGreatDoorLexM
import Derived.Lib.LastIndexLaws
namespace Go.Proofs.YtoablpaehhjchaaGreatDoor.Rx

structure Xent where
  n : Int
  off : Int
  gen : Int
  used : Bool
deriving DecidableEq, Inhabited

def first (l : List Xent) (n : Int) : Option Xent := l.find? (fun e => e.n == n)
theorem first_n {l : List Xent} {n : Int} {e : Xent} (h : first l n = some e) : e.n = n := by
  have := List.find?_some h; simpa using this
theorem first_mem {l : List Xent} {n : Int} {e : Xent} (h : first l n = some e) : e ∈ l := List.mem_of_find?_eq_some h
theorem first_app (a b : List Xent) (n : Int) : first (a ++ b) n = (first a n).or (first b n) := by
  unfold first; exact List.find?_append
theorem first_cons (e : Xent) (l : List Xent) (n : Int) : first (e :: l) n = if e.n = n then some e else first l n := by
  unfold first; rw [List.find?_cons]
  by_cases h : e.n = n
  · simp [h]
  · rw [show (e.n == n) = false from by simpa using h, if_neg h]
theorem first_snoc (l : List Xent) (e : Xent) (n : Int) : first (l ++ [e]) n = (first l n).or (if e.n = n then some e else none) := by
  rw [first_app, first_cons]; rfl

def Rise (l : List Xent) : Prop := l.Pairwise (fun a b => a.n < b.n)

def IsM (l m : List Xent) : Prop := Rise m ∧ ∀ e, e ∈ m ↔ first l e.n = some e

theorem rise_ext : ∀ (a b : List Xent), Rise a → Rise b → (∀ e, e ∈ a ↔ e ∈ b) → a = b
  | [], [], _, _, _ => rfl
  | [], y :: ys, _, _, h => absurd ((h y).2 List.mem_cons_self) List.not_mem_nil
  | x :: xs, [], _, _, h => absurd ((h x).1 List.mem_cons_self) List.not_mem_nil
  | x :: xs, y :: ys, ha, hb, h => by
    have pa := List.pairwise_cons.1 ha
    have pb := List.pairwise_cons.1 hb
    have e : x = y := by
      rcases List.mem_cons.1 ((h x).1 List.mem_cons_self) with e | e
      · exact e
      · rcases List.mem_cons.1 ((h y).2 List.mem_cons_self) with e2 | e2
        · exact e2.symm
        · have := pa.1 y e2; have := pb.1 x e; omega
    subst e
    congr 1
    refine rise_ext xs ys pa.2 pb.2 (fun z => ⟨fun hz => ?_, fun hz => ?_⟩)
    · rcases List.mem_cons.1 ((h z).1 (List.mem_cons_of_mem _ hz)) with e2 | e2
      · subst e2; have := pa.1 z hz; omega
      · exact e2
    · rcases List.mem_cons.1 ((h z).2 (List.mem_cons_of_mem _ hz)) with e2 | e2
      · subst e2; have := pb.1 z hz; omega
      · exact e2
theorem isM_one {l m m' : List Xent} (h : IsM l m) (h' : IsM l m') : m = m' :=
  rise_ext m m' h.1 h'.1 (fun e => (h.2 e).trans (h'.2 e).symm)
theorem isM_mem {l m : List Xent} (h : IsM l m) {e : Xent} (he : e ∈ m) : e ∈ l := first_mem ((h.2 e).1 he)
theorem rise_nodup {m : List Xent} (h : Rise m) : m.Nodup := List.Pairwise.imp (fun hab => by rintro rfl; omega) h
theorem nodup_le {α : Type} [DecidableEq α] : ∀ (m l : List α), m.Nodup → (∀ e ∈ m, e ∈ l) → m.length ≤ l.length
  | [], _, _, _ => Nat.zero_le _
  | x :: xs, l, h, hs => by
    have hx : x ∈ l := hs x List.mem_cons_self
    have hp := List.nodup_cons.1 h
    have h2 := nodup_le xs (l.erase x) hp.2 (fun e he => by
      rw [List.mem_erase_of_ne (by rintro rfl; exact hp.1 he)]
      exact hs e (List.mem_cons_of_mem _ he))
    have h3 := List.length_erase_of_mem hx
    have h4 : 0 < l.length := List.length_pos_of_mem hx
    simp only [List.length_cons]; omega
theorem isM_len {l m : List Xent} (h : IsM l m) : m.length ≤ l.length := nodup_le m l (rise_nodup h.1) (fun _ he => isM_mem h he)
end Go.Proofs.YtoablpaehhjchaaGreatDoor.Rx

namespace Go.Proofs.YtoablpaehhjchaaGreatDoor.Rx

def digs : Nat → Nat → List UInt8
  | 0, _ => []
  | k + 1, n => digs k (n / 10) ++ [UInt8.ofNat (48 + n % 10)]
theorem digs_len : ∀ k n, (digs k n).length = k
  | 0, _ => rfl
  | k + 1, n => by rw [digs, List.length_append, digs_len k]; rfl
theorem digs_zero : ∀ k, digs k 0 = List.replicate k 48
  | 0 => rfl
  | k + 1 => by
    rw [digs, Nat.zero_div, digs_zero k, List.replicate_succ']
    rfl
theorem digs_dec : ∀ (k n : Nat), n < 10 ^ (k + 1) → digs (k + 1) n = List.replicate (k + 1 - Lib.nDigits n) 48 ++ Lib.decDigits n
  | k, n, h => by
    by_cases hn : n < 10
    · rw [Lib.nDigits_small hn, Lib.decDigits, dif_pos hn, digs, Nat.div_eq_of_lt hn, digs_zero, Nat.mod_eq_of_lt hn, Nat.add_sub_cancel]
    · rw [Lib.nDigits_big hn, Lib.decDigits, dif_neg hn, digs]
      cases k with
      | zero => exact absurd (by simpa using h) hn
      | succ k =>
        rw [digs_dec k (n / 10) (by rw [Nat.pow_succ] at h; omega), List.append_assoc]
        congr 2
        omega
theorem nDigits_le_iff {k n : Nat} (hk : 1 ≤ k) : Lib.nDigits n ≤ k ↔ n < 10 ^ k := by
  constructor
  · intro h
    exact Nat.lt_of_lt_of_le (Lib.lt_pow_nDigits n) (Nat.pow_le_pow_right (by decide) h)
  · intro h
    obtain ⟨j, rfl⟩ : ∃ j, k = j + 1 := ⟨k - 1, by omega⟩
    exact Fx.nDigits_le j n h
theorem repeat_zero : ∀ k, Lib.repeatL [48] k = List.replicate k 48
  | 0 => rfl
  | k + 1 => by
    rw [List.replicate_succ, ← repeat_zero k]
    rfl

def lineT (e : Xent) : List UInt8 := digs 10 e.off.toNat ++ [32] ++ digs 5 e.gen.toNat ++ (if e.used then [32, 110, 32, 10] else [32, 102, 32, 10])

def headT (n : Int) (c : Nat) : List UInt8 := Lib.decDigits n.toNat ++ [32] ++ Lib.decDigits c ++ [10]

def runF : Int → List Xent → Nat
  | _, [] => 0
  | n, e :: r => if e.n = n then runF (n + 1) r + 1 else 0
def runL : List Xent → Nat
  | [] => 0
  | e :: r => runF (e.n + 1) r + 1
def bodyT : Option Int → List Xent → List UInt8
  | _, [] => []
  | p, e :: r => (if p = some (e.n - 1) then [] else headT e.n (runL (e :: r))) ++ lineT e ++ bodyT (some e.n) r
def xrefT : List UInt8 := [120, 114, 101, 102, 10]
def writeT (l : List Xent) : List UInt8 := xrefT ++ bodyT none l

theorem runF_le : ∀ (l : List Xent) (n : Int), runF n l ≤ l.length
  | [], _ => Nat.le_refl _
  | e :: r, n => by
    have := runF_le r (n + 1)
    unfold runF; rw [List.length_cons]; split <;> omega
theorem runL_le (l : List Xent) : runL l ≤ l.length := by
  cases l with
  | nil => exact Nat.le_refl _
  | cons e r => have := runF_le r (e.n + 1); rw [List.length_cons]; exact Nat.succ_le_succ this
theorem runL_pos {l : List Xent} (h : l ≠ []) : 1 ≤ runL l := by
  cases l with
  | nil => exact absurd rfl h
  | cons e r => exact Nat.succ_le_succ (Nat.zero_le _)
theorem body_none (p : Option Int) : ∀ l : List Xent, (∀ e r, l = e :: r → p ≠ some (e.n - 1)) → bodyT p l = bodyT none l
  | [], _ => by rw [bodyT, bodyT]
  | e :: r, h => by rw [bodyT, bodyT, if_neg (h e r rfl), if_neg (by simp)]
theorem body_runF : ∀ (l : List Xent) (n : Int), bodyT (some (n - 1)) l = (l.take (runF n l)).flatMap lineT ++ bodyT none (l.drop (runF n l))
  | [], n => by unfold runF bodyT; rfl
  | e :: r, n => by
    by_cases h : e.n = n
    · rw [runF, if_pos h, bodyT, if_pos (by rw [h]), List.nil_append, h, show (some n : Option Int) = some (n + 1 - 1) by rw [Int.add_sub_cancel], body_runF r (n + 1), List.take_succ_cons, List.drop_succ_cons, List.flatMap_cons, List.append_assoc]
    · rw [runF, if_neg h, List.take_zero, List.drop_zero, body_none _ _ (fun e' r' he => by
        injection he with h1 h2
        subst h1
        intro h3
        have h4 := Option.some.inj h3
        omega)]
      rfl
theorem body_run {l : List Xent} {e : Xent} {r : List Xent} (h : l = e :: r) : bodyT none l = headT e.n (runL l) ++ (l.take (runL l)).flatMap lineT ++ bodyT none (l.drop (runL l)) := by
  subst h
  rw [bodyT, if_neg (by simp)]
  have := body_runF r (e.n + 1)
  rw [Int.add_sub_cancel] at this
  rw [this]
  unfold runL
  rw [List.take_succ_cons, List.drop_succ_cons, List.flatMap_cons]
  simp only [List.append_assoc]

def risG : Int → List Xent → Bool
  | _, [] => true
  | n, e :: r => decide (n < e.n) && decide (0 ≤ e.off) && decide (0 ≤ e.gen) && risG e.n r
def tooG (e : Xent) : Bool := decide (9999999999 < e.off) || decide (99999 < e.gen) || decide (4096 ≤ e.n)

def writeE (l : List Xent) : Int := if risG (-1) l then (if l.any tooG then 2 else 0) else 1
def writeV (l : List Xent) : List UInt8 := if writeE l = 0 then writeT l else []
theorem ris_cons {n : Int} {e : Xent} {r : List Xent} : risG n (e :: r) = true ↔ n < e.n ∧ 0 ≤ e.off ∧ 0 ≤ e.gen ∧ risG e.n r = true := by
  rw [risG]; simp [and_assoc]
theorem ris_bad {n : Int} {e : Xent} {r : List Xent} (h : ¬ (n < e.n ∧ 0 ≤ e.off ∧ 0 ≤ e.gen)) : risG n (e :: r) = false := by
  cases hb : risG n (e :: r) with
  | false => rfl
  | true => exact absurd ⟨(ris_cons.1 hb).1, (ris_cons.1 hb).2.1, (ris_cons.1 hb).2.2.1⟩ h
theorem ris_good {n : Int} {e : Xent} {r : List Xent} (h : n < e.n ∧ 0 ≤ e.off ∧ 0 ≤ e.gen) : risG n (e :: r) = risG e.n r := by
  rw [risG, decide_eq_true h.1, decide_eq_true h.2.1, decide_eq_true h.2.2]; rfl
theorem ris_mem : ∀ {l : List Xent} {n : Int}, risG n l = true → ∀ e ∈ l, n < e.n ∧ 0 ≤ e.off ∧ 0 ≤ e.gen
  | [], _, _, _, he => by cases he
  | x :: r, n, h, e, he => by
    obtain ⟨h1, h2, h3, h4⟩ := ris_cons.1 h
    rcases List.mem_cons.1 he with rfl | he
    · exact ⟨h1, h2, h3⟩
    · have := ris_mem h4 e he; exact ⟨by omega, this.2⟩
theorem writeE_one {l : List Xent} (h : risG (-1) l = false) : writeE l = 1 := by unfold writeE; rw [h]; rfl
theorem writeE_two {l : List Xent} (h : risG (-1) l = true) (h2 : l.any tooG = true) : writeE l = 2 := by unfold writeE; rw [h, h2]; rfl
theorem writeE_ok {l : List Xent} (h : risG (-1) l = true) (h2 : l.any tooG = false) : writeE l = 0 := by unfold writeE; rw [h, h2]; rfl
theorem writeE_zero {l : List Xent} (h : writeE l = 0) : risG (-1) l = true ∧ ∀ e ∈ l, 0 ≤ e.n ∧ e.n < 4096 ∧ 0 ≤ e.off ∧ e.off ≤ 9999999999 ∧ 0 ≤ e.gen ∧ e.gen ≤ 99999 := by
  unfold writeE at h
  split at h
  · rename_i hr
    split at h
    · cases h
    · rename_i ht
      refine ⟨hr, fun e he => ?_⟩
      have hm := ris_mem hr e he
      have h2 : tooG e = false := by
        cases hb : tooG e with
        | false => rfl
        | true => exact absurd (List.any_eq_true.2 ⟨e, he, hb⟩) ht
      unfold tooG at h2
      simp only [Bool.or_eq_false_iff, decide_eq_false_iff_not] at h2
      omega
  · cases h
end Go.Proofs.YtoablpaehhjchaaGreatDoor.Rx

namespace Go.Proofs.YtoablpaehhjchaaGreatDoor.Rx
open Lx
set_option linter.unusedSimpArgs false
set_option linter.unusedVariables false

def tokX (l : List UInt8) (a : Int) : Int × Tok :=
  if (nextV l a).1 = 0 then (if (nextV l a).2.kind = 0 then (4, zero) else (0, (nextV l a).2)) else ((nextV l a).1, zero)
def isWh (t : Tok) : Bool := t.kind == 1 && t.whole && decide (0 ≤ t.f)
def isWd (t : Tok) (s : List UInt8) : Bool := t.kind == 8 && t.s == s

def wholeX (l : List UInt8) (a : Int) : Int × Int × Nat :=
  if (tokX l a).1 = 0 then (if isWh (tokX l a).2 then (0, (tokX l a).2.f.tdiv 1000, (tokX l a).2.to) else (3, 0, 0)) else ((tokX l a).1, 0, 0)
def zeroE : Xent := ⟨0, 0, 0, false⟩

def entT (t : Int × Tok) (n off gen : Int) : Int × Xent × Nat :=
  if t.1 = 0 then (if isWd t.2 [110] || isWd t.2 [102] then (0, ⟨n, off, gen, t.2.s == [110]⟩, t.2.to) else (3, zeroE, 0)) else (t.1, zeroE, 0)
def entX (l : List UInt8) (a : Int) (n : Int) : Int × Xent × Nat :=
  if (wholeX l a).1 = 0 then
    (if (wholeX l (wholeX l a).2.2).1 = 0 then entT (tokX l (wholeX l (wholeX l a).2.2).2.2) n (wholeX l a).2.1 (wholeX l (wholeX l a).2.2).2.1
     else ((wholeX l (wholeX l a).2.2).1, zeroE, 0))
  else ((wholeX l a).1, zeroE, 0)

def secG (l : List UInt8) : Nat → Int → Nat → List Xent → Int × List Xent × Nat
  | 0, _, a, acc => (0, acc, a)
  | n + 1, first, a, acc => if (entX l a first).1 = 0 then secG l n (first + 1) (entX l a first).2.2 (acc ++ [(entX l a first).2.1]) else ((entX l a first).1, [], 0)
def secX (l : List UInt8) (first : Int) (a : Nat) : Int × List Xent × Nat :=
  if (wholeX l a).1 = 0 then (if 0 < (wholeX l a).2.1 ∧ 4096 < first + (wholeX l a).2.1 then (6, [], 0) else secG l (wholeX l a).2.1.toNat first (wholeX l a).2.2 [])
  else ((wholeX l a).1, [], 0)
def trailT : List UInt8 := [116, 114, 97, 105, 108, 101, 114]
def entsG (l : List UInt8) : Nat → Nat → List Xent → Int × List Xent × Nat
  | 0, _, _ => (99, [], 0)
  | F + 1, a, acc =>
    if (tokX l a).1 = 0 then
      (if isWd (tokX l a).2 trailT then (0, acc, (tokX l a).2.to)
       else if isWh (tokX l a).2 then
         (if (secX l ((tokX l a).2.f.tdiv 1000) (tokX l a).2.to).1 = 0 then entsG l F (secX l ((tokX l a).2.f.tdiv 1000) (tokX l a).2.to).2.2 (acc ++ (secX l ((tokX l a).2.f.tdiv 1000) (tokX l a).2.to).2.1)
          else ((secX l ((tokX l a).2.f.tdiv 1000) (tokX l a).2.to).1, [], 0))
       else (3, [], 0))
    else ((tokX l a).1, [], 0)
def entsX (l : List UInt8) (a : Int) : Int × List Xent × Nat :=
  if (tokX l a).1 = 0 then (if isWd (tokX l a).2 [120, 114, 101, 102] then entsG l (l.length + 2) (tokX l a).2.to [] else (3, [], 0)) else ((tokX l a).1, [], 0)

def parseX (l : List UInt8) (a : Int) : Int × List Xent × Cx.Ob :=
  if (entsX l a).1 = 0 then
    (if (Cx.parse l (entsX l a).2.2).1 = 0 then (if (Cx.parse l (entsX l a).2.2).2.1.k = 6 then (0, (entsX l a).2.1, (Cx.parse l (entsX l a).2.2).2.1) else (3, [], Cx.nul))
     else ((Cx.parse l (entsX l a).2.2).1, [], Cx.nul))
  else ((entsX l a).1, [], Cx.nul)
def startT : List UInt8 := [115, 116, 97, 114, 116, 120, 114, 101, 102]

def startX (l : List UInt8) : Int × Int :=
  if Lib.lastIndex l startT < 0 then (3, 0)
  else if (wholeX l (Lib.lastIndex l startT + 9)).1 = 4 then (3, 0)
  else if (wholeX l (Lib.lastIndex l startT + 9)).1 = 0 then (if (l.length : Int) < (wholeX l (Lib.lastIndex l startT + 9)).2.1 then (2, 0) else (0, (wholeX l (Lib.lastIndex l startT + 9)).2.1))
  else ((wholeX l (Lib.lastIndex l startT + 9)).1, 0)

theorem tokX_ok {l : List UInt8} {a : Int} (h : (tokX l a).1 = 0) : (nextV l a).1 = 0 ∧ (tokX l a).2 = (nextV l a).2 ∧ (nextV l a).2.kind ≠ 0 ∧ 0 ≤ a ∧ a < ((tokX l a).2.to : Int) ∧ (tokX l a).2.to ≤ l.length := by
  unfold tokX at h ⊢
  by_cases h1 : (nextV l a).1 = 0
  · rw [if_pos h1] at h ⊢
    by_cases h2 : (nextV l a).2.kind = 0
    · rw [if_pos h2] at h; exact absurd h (by decide)
    · rw [if_neg h2] at h ⊢
      obtain ⟨b1, b2, b3, b4, b5, b6, b7⟩ := next_bd l a h1
      refine ⟨h1, rfl, h2, b1, ?_, b6⟩
      rcases b7 with ⟨k, _⟩ | ⟨_, _, k⟩
      · exact absurd k h2
      · show a < ((nextV l a).2.to : Int); omega
  · rw [if_neg h1] at h; exact absurd h h1
theorem isWh_iff {t : Tok} : isWh t = true ↔ t.kind = 1 ∧ t.whole = true ∧ 0 ≤ t.f := by
  unfold isWh; simp [and_assoc]
theorem wholeX_ok {l : List UInt8} {a : Int} (h : (wholeX l a).1 = 0) : 0 ≤ a ∧ a < ((wholeX l a).2.2 : Int) ∧ (wholeX l a).2.2 ≤ l.length ∧ 0 ≤ (wholeX l a).2.1 ∧ (wholeX l a).2.1 ≤ 2147483 := by
  unfold wholeX at h ⊢
  by_cases h1 : (tokX l a).1 = 0
  · rw [if_pos h1] at h ⊢
    by_cases h2 : isWh (tokX l a).2 = true
    · rw [if_pos h2]
      obtain ⟨t1, t2, t3, t4, t5, t6⟩ := tokX_ok h1
      have hf := (isWh_iff.1 h2).2.2
      have hb := (next_len l a).2.1
      rw [t2] at hf t5 t6 ⊢
      refine ⟨t4, t5, t6, ?_, ?_⟩
      · show 0 ≤ (nextV l a).2.f.tdiv 1000
        rw [Int.tdiv_eq_ediv_of_nonneg hf]; omega
      · show (nextV l a).2.f.tdiv 1000 ≤ 2147483
        rw [Int.tdiv_eq_ediv_of_nonneg hf]; omega
    · rw [if_neg h2] at h; exact absurd h (by decide)
  · rw [if_neg h1] at h; exact absurd h h1
theorem entX_ok {l : List UInt8} {a n : Int} (h : (entX l a n).1 = 0) : 0 ≤ a ∧ a < ((entX l a n).2.2 : Int) ∧ (entX l a n).2.2 ≤ l.length := by
  unfold entX at h ⊢
  by_cases h1 : (wholeX l a).1 = 0
  · rw [if_pos h1] at h ⊢
    obtain ⟨w0, w1, w2, -, -⟩ := wholeX_ok h1
    by_cases h2 : (wholeX l (wholeX l a).2.2).1 = 0
    · rw [if_pos h2] at h ⊢
      obtain ⟨v0, v1, v2, -, -⟩ := wholeX_ok h2
      unfold entT at h ⊢
      by_cases h3 : (tokX l (wholeX l (wholeX l a).2.2).2.2).1 = 0
      · rw [if_pos h3] at h ⊢
        obtain ⟨-, -, -, t4, t5, t6⟩ := tokX_ok h3
        by_cases h4 : (isWd (tokX l (wholeX l (wholeX l a).2.2).2.2).2 [110] || isWd (tokX l (wholeX l (wholeX l a).2.2).2.2).2 [102]) = true
        · rw [if_pos h4]; refine ⟨w0, ?_, t6⟩; simp only []; omega
        · rw [if_neg h4] at h; exact absurd h (by decide)
      · rw [if_neg h3] at h; exact absurd h h3
    · rw [if_neg h2] at h; exact absurd h h2
  · rw [if_neg h1] at h; exact absurd h h1
theorem secG_ok {l : List UInt8} : ∀ (n : Nat) (first : Int) (a : Nat) (acc : List Xent), (secG l n first a acc).1 = 0 → a ≤ l.length → a ≤ (secG l n first a acc).2.2 ∧ (secG l n first a acc).2.2 ≤ l.length ∧ (secG l n first a acc).2.1.length = acc.length + n
  | 0, _, a, acc, _, ha => ⟨Nat.le_refl _, ha, rfl⟩
  | n + 1, first, a, acc, h, ha => by
    rw [secG] at h ⊢
    by_cases h1 : (entX l a first).1 = 0
    · rw [if_pos h1] at h ⊢
      obtain ⟨-, e1, e2⟩ := entX_ok h1
      obtain ⟨g1, g2, g3⟩ := secG_ok n (first + 1) _ _ h e2
      rw [List.length_append, List.length_singleton] at g3
      exact ⟨by omega, g2, by omega⟩
    · rw [if_neg h1] at h; exact absurd h h1
theorem secX_ok {l : List UInt8} {first : Int} {a : Nat} (h : (secX l first a).1 = 0) : a < (secX l first a).2.2 ∧ (secX l first a).2.2 ≤ l.length ∧ (0 ≤ first → (secX l first a).2.1.length ≤ 4096) := by
  unfold secX at h ⊢
  by_cases h1 : (wholeX l a).1 = 0
  · rw [if_pos h1] at h ⊢
    obtain ⟨w0, w1, w2, w3, w4⟩ := wholeX_ok h1
    by_cases h2 : 0 < (wholeX l a).2.1 ∧ 4096 < first + (wholeX l a).2.1
    · rw [if_pos h2] at h; exact absurd h (by decide)
    · rw [if_neg h2] at h ⊢
      obtain ⟨g1, g2, g3⟩ := secG_ok _ _ _ _ h w2
      refine ⟨by omega, g2, fun hf => ?_⟩
      rw [g3, List.length_nil]; omega
  · rw [if_neg h1] at h; exact absurd h h1

theorem parse_bad {l : List UInt8} {a : Int} (h : (parseX l a).1 ≠ 0) : (parseX l a).2 = ([], Cx.nul) := by
  unfold parseX at h ⊢
  repeat' split
  all_goals first | rfl | (exfalso; revert h; simp_all)
end Go.Proofs.YtoablpaehhjchaaGreatDoor.Rx
