/-
  Package xref as functions on lists: entries, how they merge. Nothing of the program is named here.
  Entries as a table's text: what package xref's Write answers, as functions on lists.
  Package lex as functions on lists of bytes: what each of its functions answers. Nothing of the program is named here.
  A token is the same wherever its bytes stand: only its places move.
  Where a token ends: behind where it begins, within the text.
  Objects as a tree, and what package cos answers over them. Nothing of the program is named here.
  How great a token's number is, and how long its text.
  Arrays and dictionaries in one another: what is read of their text, and of what is cut off. Nothing of the program is named here.
  Tokens of a table's text; Start and Parse of package xref as functions on lists.
  A numbered object as a text: what package cos's Indirect answers. Nothing of the program is named here.
  A file's objects: what package store answers, on lists. Nothing of the program is named here.
  Package store's Find, Resolve, Entry, Put, Free on lists. Nothing of the program is named here.
-/
import Derived.WalkKit
import Derived.KernelRfl
import Derived.Test.YtakbhdhlcnpejaaFixMs
import Derived.Lib.Repeat
import Derived.Lib.Bytealg
import Derived.Lib.Strings
import Derived.Lib.LastIndexLaws
namespace Go.Proofs.Ytakbhdhlcnpejaa.Rx

/-- An entry. -/
structure Xent where
  n : Int
  off : Int
  gen : Int
  used : Bool
deriving DecidableEq, Inhabited

/-- The first entry of a number. -/
def first (l : List Xent) (n : Int) : Option Xent := l.find? (fun e => e.n == n)
theorem first_n {l : List Xent} {n : Int} {e : Xent} (h : first l n = some e) : e.n = n := by
  have := List.find?_some h; simpa using this
theorem first_mem {l : List Xent} {n : Int} {e : Xent} (h : first l n = some e) : e ∈ l := List.mem_of_find?_eq_some h
theorem first_none {l : List Xent} {n : Int} (h : first l n = none) : ∀ e ∈ l, e.n ≠ n := fun e he => by
  have := List.find?_eq_none.1 h e he; simpa using this
theorem first_is {l : List Xent} {e : Xent} (h : e ∈ l) : ∃ f, first l e.n = some f := by
  cases h2 : first l e.n with
  | none => exact absurd rfl (first_none h2 e h)
  | some f => exact ⟨f, rfl⟩
theorem first_app (a b : List Xent) (n : Int) : first (a ++ b) n = (first a n).or (first b n) := by
  unfold first; exact List.find?_append
theorem first_cons (e : Xent) (l : List Xent) (n : Int) : first (e :: l) n = if e.n = n then some e else first l n := by
  unfold first; rw [List.find?_cons]
  by_cases h : e.n = n
  · simp [h]
  · rw [show (e.n == n) = false from by simpa using h, if_neg h]
theorem first_snoc (l : List Xent) (e : Xent) (n : Int) : first (l ++ [e]) n = (first l n).or (if e.n = n then some e else none) := by
  rw [first_app, first_cons]; rfl

/-- Entries rise. -/
def Rise (l : List Xent) : Prop := l.Pairwise (fun a b => a.n < b.n)
/-- m is what the entries of l are by rising numbers, each number's first one. -/
def IsM (l m : List Xent) : Prop := Rise m ∧ ∀ e, e ∈ m ↔ first l e.n = some e

theorem rise_first {m : List Xent} (h : Rise m) {e : Xent} (he : e ∈ m) : first m e.n = some e := by
  induction m with
  | nil => cases he
  | cons x xs ih =>
    rw [first_cons]
    have hp := List.pairwise_cons.1 h
    rcases List.mem_cons.1 he with rfl | he
    · rw [if_pos rfl]
    · rw [if_neg (by have := hp.1 e he; omega)]
      exact ih hp.2 he
theorem rise_ext : ∀ (a b : List Xent), Rise a → Rise b → (∀ e, e ∈ a ↔ e ∈ b) → a = b
  | [], [], _, _, _ => rfl
  | [], y :: ys, _, _, h => absurd ((h y).2 List.mem_cons_self) List.not_mem_nil
  | x :: xs, [], _, _, h => absurd ((h x).1 List.mem_cons_self) List.not_mem_nil
  | x :: xs, y :: ys, ha, hb, h => by
    have pa := List.pairwise_cons.1 ha
    have pb := List.pairwise_cons.1 hb
    have e : x = y := by
      rcases List.mem_cons.1 ((h x).1 List.mem_cons_self) with e | e
      · exact e
      · rcases List.mem_cons.1 ((h y).2 List.mem_cons_self) with e2 | e2
        · exact e2.symm
        · have := pa.1 y e2; have := pb.1 x e; omega
    subst e
    congr 1
    refine rise_ext xs ys pa.2 pb.2 (fun z => ⟨fun hz => ?_, fun hz => ?_⟩)
    · rcases List.mem_cons.1 ((h z).1 (List.mem_cons_of_mem _ hz)) with e2 | e2
      · subst e2; have := pa.1 z hz; omega
      · exact e2
    · rcases List.mem_cons.1 ((h z).2 (List.mem_cons_of_mem _ hz)) with e2 | e2
      · subst e2; have := pb.1 z hz; omega
      · exact e2
theorem isM_one {l m m' : List Xent} (h : IsM l m) (h' : IsM l m') : m = m' :=
  rise_ext m m' h.1 h'.1 (fun e => (h.2 e).trans (h'.2 e).symm)
theorem isM_mem {l m : List Xent} (h : IsM l m) {e : Xent} (he : e ∈ m) : e ∈ l := first_mem ((h.2 e).1 he)
theorem isM_first {l m : List Xent} (h : IsM l m) (n : Int) : first m n = first l n := by
  cases h2 : first l n with
  | none =>
    cases h3 : first m n with
    | none => rfl
    | some e =>
      have := first_none h2 e (isM_mem h (first_mem h3))
      exact absurd (first_n h3) this
  | some e =>
    have hn := first_n h2
    subst hn
    exact rise_first h.1 ((h.2 e).2 h2)
theorem isM_again {l m : List Xent} (k : List Xent) (h : IsM l m) (hk : ∀ e ∈ k, e ∈ l) : IsM (m ++ k) m := by
  refine ⟨h.1, fun e => ?_⟩
  rw [first_app, isM_first h, h.2 e]
  cases h2 : first l e.n with
  | some f => rfl
  | none =>
    constructor
    · intro h3; cases h3
    · intro h3
      have : first k e.n = some e := h3
      exact absurd rfl (first_none h2 e (hk e (first_mem this)))
theorem isM_newer {l old m n : List Xent} (h : IsM (l ++ old) m) (hn : IsM l n) {e : Xent} (he : e ∈ n) : e ∈ m := by
  rw [h.2 e, first_app, (hn.2 e).1 he]; rfl
theorem rise_nodup {m : List Xent} (h : Rise m) : m.Nodup := List.Pairwise.imp (fun hab => by rintro rfl; omega) h
theorem nodup_le {α : Type} [DecidableEq α] : ∀ (m l : List α), m.Nodup → (∀ e ∈ m, e ∈ l) → m.length ≤ l.length
  | [], _, _, _ => Nat.zero_le _
  | x :: xs, l, h, hs => by
    have hx : x ∈ l := hs x List.mem_cons_self
    have hp := List.nodup_cons.1 h
    have h2 := nodup_le xs (l.erase x) hp.2 (fun e he => by
      rw [List.mem_erase_of_ne (by rintro rfl; exact hp.1 he)]
      exact hs e (List.mem_cons_of_mem _ he))
    have h3 := List.length_erase_of_mem hx
    have h4 : 0 < l.length := List.length_pos_of_mem hx
    simp only [List.length_cons]; omega
theorem isM_len {l m : List Xent} (h : IsM l m) : m.length ≤ l.length := nodup_le m l (rise_nodup h.1) (fun _ he => isM_mem h he)
theorem rise_get {m : List Xent} (h : Rise m) {i j : Nat} (hij : i < j) (hj : j < m.length) : (m[i]'(by omega)).n < m[j].n :=
  List.pairwise_iff_getElem.1 h i j (by omega) hj hij

end Go.Proofs.Ytakbhdhlcnpejaa.Rx

namespace Go.Proofs.Ytakbhdhlcnpejaa.Rx

/-- A number in so many digits. -/
def digs : Nat → Nat → List UInt8
  | 0, _ => []
  | k + 1, n => digs k (n / 10) ++ [UInt8.ofNat (48 + n % 10)]
theorem digs_len : ∀ k n, (digs k n).length = k
  | 0, _ => rfl
  | k + 1, n => by rw [digs, List.length_append, digs_len k]; rfl
theorem digs_zero : ∀ k, digs k 0 = List.replicate k 48
  | 0 => rfl
  | k + 1 => by
    rw [digs, Nat.zero_div, digs_zero k, List.replicate_succ']
    rfl
theorem digs_dec : ∀ (k n : Nat), n < 10 ^ (k + 1) → digs (k + 1) n = List.replicate (k + 1 - Lib.nDigits n) 48 ++ Lib.decDigits n
  | k, n, h => by
    by_cases hn : n < 10
    · rw [Lib.nDigits_small hn, Lib.decDigits, dif_pos hn, digs, Nat.div_eq_of_lt hn, digs_zero, Nat.mod_eq_of_lt hn, Nat.add_sub_cancel]
    · rw [Lib.nDigits_big hn, Lib.decDigits, dif_neg hn, digs]
      cases k with
      | zero => exact absurd (by simpa using h) hn
      | succ k =>
        rw [digs_dec k (n / 10) (by rw [Nat.pow_succ] at h; omega), List.append_assoc]
        congr 2
        omega
theorem digs_all (n : Nat) : digs (Lib.nDigits n) n = Lib.decDigits n := by
  have h := Lib.lt_pow_nDigits n
  have h1 := Lib.nDigits_pos n
  obtain ⟨k, hk⟩ : ∃ k, Lib.nDigits n = k + 1 := ⟨Lib.nDigits n - 1, by omega⟩
  have e := digs_dec k n (by rw [← hk]; exact h)
  rw [hk] at e ⊢
  rw [e, Nat.sub_self]; rfl
theorem nDigits_le_iff {k n : Nat} (hk : 1 ≤ k) : Lib.nDigits n ≤ k ↔ n < 10 ^ k := by
  constructor
  · intro h
    exact Nat.lt_of_lt_of_le (Lib.lt_pow_nDigits n) (Nat.pow_le_pow_right (by decide) h)
  · intro h
    obtain ⟨j, rfl⟩ : ∃ j, k = j + 1 := ⟨k - 1, by omega⟩
    exact Fx.nDigits_le j n h
theorem repeat_zero : ∀ k, Lib.repeatL [48] k = List.replicate k 48
  | 0 => rfl
  | k + 1 => by
    rw [List.replicate_succ, ← repeat_zero k]
    rfl

/-- An entry's line. -/
def lineT (e : Xent) : List UInt8 := digs 10 e.off.toNat ++ [32] ++ digs 5 e.gen.toNat ++ (if e.used then [32, 110, 32, 10] else [32, 102, 32, 10])
/-- The line ahead of a run's entries. -/
def headT (n : Int) (c : Nat) : List UInt8 := Lib.decDigits n.toNat ++ [32] ++ Lib.decDigits c ++ [10]
/-- How many entries have the numbers from n on. -/
def runF : Int → List Xent → Nat
  | _, [] => 0
  | n, e :: r => if e.n = n then runF (n + 1) r + 1 else 0
def runL : List Xent → Nat
  | [] => 0
  | e :: r => runF (e.n + 1) r + 1
def bodyT : Option Int → List Xent → List UInt8
  | _, [] => []
  | p, e :: r => (if p = some (e.n - 1) then [] else headT e.n (runL (e :: r))) ++ lineT e ++ bodyT (some e.n) r
def xrefT : List UInt8 := [120, 114, 101, 102, 10]
def writeT (l : List Xent) : List UInt8 := xrefT ++ bodyT none l

theorem runF_le : ∀ (l : List Xent) (n : Int), runF n l ≤ l.length
  | [], _ => Nat.le_refl _
  | e :: r, n => by
    have := runF_le r (n + 1)
    unfold runF; rw [List.length_cons]; split <;> omega
theorem runL_le (l : List Xent) : runL l ≤ l.length := by
  cases l with
  | nil => exact Nat.le_refl _
  | cons e r => have := runF_le r (e.n + 1); rw [List.length_cons]; exact Nat.succ_le_succ this
theorem runL_pos {l : List Xent} (h : l ≠ []) : 1 ≤ runL l := by
  cases l with
  | nil => exact absurd rfl h
  | cons e r => exact Nat.succ_le_succ (Nat.zero_le _)
theorem body_none (p : Option Int) : ∀ l : List Xent, (∀ e r, l = e :: r → p ≠ some (e.n - 1)) → bodyT p l = bodyT none l
  | [], _ => by rw [bodyT, bodyT]
  | e :: r, h => by rw [bodyT, bodyT, if_neg (h e r rfl), if_neg (by simp)]
theorem body_runF : ∀ (l : List Xent) (n : Int), bodyT (some (n - 1)) l = (l.take (runF n l)).flatMap lineT ++ bodyT none (l.drop (runF n l))
  | [], n => by unfold runF bodyT; rfl
  | e :: r, n => by
    by_cases h : e.n = n
    · rw [runF, if_pos h, bodyT, if_pos (by rw [h]), List.nil_append, h, show (some n : Option Int) = some (n + 1 - 1) by rw [Int.add_sub_cancel], body_runF r (n + 1), List.take_succ_cons, List.drop_succ_cons, List.flatMap_cons, List.append_assoc]
    · rw [runF, if_neg h, List.take_zero, List.drop_zero, body_none _ _ (fun e' r' he => by
        injection he with h1 h2
        subst h1
        intro h3
        have h4 := Option.some.inj h3
        omega)]
      rfl
theorem body_run {l : List Xent} {e : Xent} {r : List Xent} (h : l = e :: r) : bodyT none l = headT e.n (runL l) ++ (l.take (runL l)).flatMap lineT ++ bodyT none (l.drop (runL l)) := by
  subst h
  rw [bodyT, if_neg (by simp)]
  have := body_runF r (e.n + 1)
  rw [Int.add_sub_cancel] at this
  rw [this]
  unfold runL
  rw [List.take_succ_cons, List.drop_succ_cons, List.flatMap_cons]
  simp only [List.append_assoc]
/-- As the reference tells the runs, one entry behind the other. -/
theorem body_get (l : List Xent) (i : Nat) (h : i < l.length) (p : Option Int) : bodyT p (l.drop i) = (if p = some (l[i].n - 1) then [] else headT l[i].n (runL (l.drop i))) ++ lineT l[i] ++ bodyT (some l[i].n) (l.drop (i + 1)) := by
  rw [List.drop_eq_getElem_cons h, bodyT]

/-- Do the numbers rise, from above a number on, and is none below 0? -/
def risG : Int → List Xent → Bool
  | _, [] => true
  | n, e :: r => decide (n < e.n) && decide (0 ≤ e.off) && decide (0 ≤ e.gen) && risG e.n r
def tooG (e : Xent) : Bool := decide (9999999999 < e.off) || decide (99999 < e.gen) || decide (4096 ≤ e.n)
/-- Write. -/
def writeE (l : List Xent) : Int := if risG (-1) l then (if l.any tooG then 2 else 0) else 1
def writeV (l : List Xent) : List UInt8 := if writeE l = 0 then writeT l else []
theorem ris_cons {n : Int} {e : Xent} {r : List Xent} : risG n (e :: r) = true ↔ n < e.n ∧ 0 ≤ e.off ∧ 0 ≤ e.gen ∧ risG e.n r = true := by
  rw [risG]; simp [and_assoc]
theorem ris_bad {n : Int} {e : Xent} {r : List Xent} (h : ¬ (n < e.n ∧ 0 ≤ e.off ∧ 0 ≤ e.gen)) : risG n (e :: r) = false := by
  cases hb : risG n (e :: r) with
  | false => rfl
  | true => exact absurd ⟨(ris_cons.1 hb).1, (ris_cons.1 hb).2.1, (ris_cons.1 hb).2.2.1⟩ h
theorem ris_good {n : Int} {e : Xent} {r : List Xent} (h : n < e.n ∧ 0 ≤ e.off ∧ 0 ≤ e.gen) : risG n (e :: r) = risG e.n r := by
  rw [risG, decide_eq_true h.1, decide_eq_true h.2.1, decide_eq_true h.2.2]; rfl
theorem ris_mem : ∀ {l : List Xent} {n : Int}, risG n l = true → ∀ e ∈ l, n < e.n ∧ 0 ≤ e.off ∧ 0 ≤ e.gen
  | [], _, _, _, he => by cases he
  | x :: r, n, h, e, he => by
    obtain ⟨h1, h2, h3, h4⟩ := ris_cons.1 h
    rcases List.mem_cons.1 he with rfl | he
    · exact ⟨h1, h2, h3⟩
    · have := ris_mem h4 e he; exact ⟨by omega, this.2⟩
theorem writeE_one {l : List Xent} (h : risG (-1) l = false) : writeE l = 1 := by unfold writeE; rw [h]; rfl
theorem writeE_two {l : List Xent} (h : risG (-1) l = true) (h2 : l.any tooG = true) : writeE l = 2 := by unfold writeE; rw [h, h2]; rfl
theorem writeE_ok {l : List Xent} (h : risG (-1) l = true) (h2 : l.any tooG = false) : writeE l = 0 := by unfold writeE; rw [h, h2]; rfl
theorem writeE_zero {l : List Xent} (h : writeE l = 0) : risG (-1) l = true ∧ ∀ e ∈ l, 0 ≤ e.n ∧ e.n < 4096 ∧ 0 ≤ e.off ∧ e.off ≤ 9999999999 ∧ 0 ≤ e.gen ∧ e.gen ≤ 99999 := by
  unfold writeE at h
  split at h
  · rename_i hr
    split at h
    · cases h
    · rename_i ht
      refine ⟨hr, fun e he => ?_⟩
      have hm := ris_mem hr e he
      have h2 : tooG e = false := by
        cases hb : tooG e with
        | false => rfl
        | true => exact absurd (List.any_eq_true.2 ⟨e, he, hb⟩) ht
      unfold tooG at h2
      simp only [Bool.or_eq_false_iff, decide_eq_false_iff_not] at h2
      omega
  · cases h
theorem writeE_cases (l : List Xent) : writeE l = 0 ∨ writeE l = 1 ∨ writeE l = 2 := by
  unfold writeE; split
  · split
    · exact .inr (.inr rfl)
    · exact .inl rfl
  · exact .inr (.inl rfl)

end Go.Proofs.Ytakbhdhlcnpejaa.Rx

namespace Go.Proofs.Ytakbhdhlcnpejaa.Lx

/-- A fact on each byte, asked of all 256. -/
theorem byte_all (p : UInt8 → Bool) (h : (List.range 256).all (fun n => p (UInt8.ofNat n)) = true) (b : UInt8) : p b = true := by
  have := List.all_eq_true.1 h b.toNat (List.mem_range.2 b.toNat_lt)
  simpa using this
theorem u8_eq {a b : UInt8} (h : a.toNat = b.toNat) : a = b := UInt8.toNat_inj.1 h
theorem u8_int (n : Int) (h0 : 0 ≤ n) (h1 : n ≤ 255) : ∃ b : UInt8, n = (b.toNat : Int) :=
  ⟨UInt8.ofNat n.toNat, by simp; omega⟩

def white (b : UInt8) : Bool := b == 0 || b == 9 || b == 10 || b == 12 || b == 13 || b == 32
def delim (b : UInt8) : Bool := b == 40 || b == 41 || b == 60 || b == 62 || b == 91 || b == 93 || b == 123 || b == 125 || b == 47 || b == 37
def reg (b : UInt8) : Bool := !white b && !delim b
def blank (b : UInt8) : Bool := white b || b == 37
def inLine (b : UInt8) : Bool := b != 10 && b != 13
def printed (b : UInt8) : Bool := decide (32 ≤ b.toNat) && decide (b.toNat ≤ 126)
def isHex (b : UInt8) : Bool := (decide (48 ≤ b.toNat) && decide (b.toNat ≤ 57)) || (decide (65 ≤ b.toNat) && decide (b.toNat ≤ 70)) || (decide (97 ≤ b.toNat) && decide (b.toNat ≤ 102))
def hexV (b : UInt8) : UInt8 := if 97 ≤ b.toNat then b - 87 else if 65 ≤ b.toNat then b - 55 else b - 48
def isOct (b : UInt8) : Bool := decide (48 ≤ b.toNat) && decide (b.toNat ≤ 55)
def numB (b : UInt8) : Bool := (decide (48 ≤ b.toNat) && decide (b.toNat ≤ 57)) || b == 43 || b == 45 || b == 46

/-- How many bytes from the begin on fit. -/
def tw (p : UInt8 → Bool) : List UInt8 → Nat
  | [] => 0
  | b :: r => if p b then tw p r + 1 else 0
theorem tw_le (p : UInt8 → Bool) : ∀ l : List UInt8, tw p l ≤ l.length
  | [] => Nat.le_refl _
  | b :: r => by
    have := tw_le p r
    unfold tw; split <;> simp <;> omega
theorem tw_take (p : UInt8 → Bool) : ∀ l : List UInt8, ∀ b ∈ l.take (tw p l), p b = true
  | [], _, h => by simp at h
  | b :: r, c, h => by
    unfold tw at h
    split at h
    · rw [List.take_succ_cons] at h
      rcases List.mem_cons.1 h with rfl | h
      · assumption
      · exact tw_take p r c h
    · simp at h

/-- White and comments; true: in a comment. -/
def spc : Bool → List UInt8 → Nat
  | _, [] => 0
  | true, b :: r => if inLine b then spc true r + 1 else spc false r + 1
  | false, b :: r => if white b then spc false r + 1 else if b == 37 then spc true r + 1 else 0
theorem spc_le : ∀ (c : Bool) (l : List UInt8), spc c l ≤ l.length
  | _, [] => by unfold spc; exact Nat.le_refl _
  | true, b :: r => by
    have := spc_le true r; have := spc_le false r
    unfold spc; split <;> simp <;> omega
  | false, b :: r => by
    have := spc_le true r; have := spc_le false r
    unfold spc; split
    · simp; omega
    · split <;> simp; omega
theorem inLine_white {b : UInt8} (h : inLine b = false) : white b = true := by
  have := byte_all (fun b => inLine b || white b) (by kernel_rfl) b
  rw [h] at this; simpa using this
theorem spc_line : ∀ l : List UInt8, spc true l = tw inLine l + spc false (l.drop (tw inLine l))
  | [] => rfl
  | b :: r => by
    rw [spc, tw]
    cases h : inLine b
    · simp only [Bool.false_eq_true, if_false, List.drop_zero, spc, inLine_white h, if_true]; omega
    · simp only [if_true, List.drop_succ_cons]; rw [spc_line r]; omega
/-- Where white and comments end. -/
def spaceV (l : List UInt8) (at_ : Int) : Nat :=
  (min (max at_ 0) l.length).toNat + spc false (l.drop (min (max at_ 0) l.length).toNat)

/-- What a reader answers: an error's number, bytes, the place behind. -/
abbrev R3 := Int × List UInt8 × Nat

def crlf : List UInt8 → Nat
  | b :: _ => if b == 10 then 1 else 0
  | [] => 0

/-- The Name behind its sign: bytes so far, how many bytes to pass over. -/
def nameGo : List UInt8 → Nat → List UInt8 → Nat → R3
  | acc, _, [], k => (0, acc, k)
  | acc, n + 1, _ :: r, k => nameGo acc n r (k + 1)
  | acc, 0, b :: r, k =>
    if reg b then
      if b == 35 then
        match r with
        | h1 :: h2 :: _ => if isHex h1 && isHex h2 then nameGo (acc ++ [hexV h1 <<< 4 ||| hexV h2]) 2 r (k + 1) else (3, [], 0)
        | _ => (3, [], 0)
      else nameGo (acc ++ [b]) 0 r (k + 1)
    else (0, acc, k)

theorem name_end (acc : List UInt8) (k : Nat) : nameGo acc 0 [] k = (0, acc, k) := by unfold nameGo; rfl
theorem name_stop {b : UInt8} (h : reg b = false) (acc r : List UInt8) (k : Nat) : nameGo acc 0 (b :: r) k = (0, acc, k) := by
  unfold nameGo; rw [h]; rfl
theorem name_byte {b : UInt8} (h : reg b = true) (h' : b ≠ 35) (acc r : List UInt8) (k : Nat) : nameGo acc 0 (b :: r) k = nameGo (acc ++ [b]) 0 r (k + 1) := by
  rw [nameGo.eq_def]; simp only [h, if_true, show (b == 35) = false from by simpa using h', Bool.false_eq_true, if_false]
theorem name_two {b h1 h2 : UInt8} (hb : b = 35) (e1 : isHex h1 = true) (e2 : isHex h2 = true) (acc r : List UInt8) (k : Nat) :
    nameGo acc 0 (b :: h1 :: h2 :: r) k = nameGo (acc ++ [hexV h1 <<< 4 ||| hexV h2]) 0 r (k + 3) := by
  subst hb
  rw [nameGo.eq_def]; simp only [show reg 35 = true from rfl, e1, e2, if_true, Bool.and_self, beq_self_eq_true]
  rw [nameGo.eq_def]; simp only []
  rw [nameGo.eq_def]
theorem name_bad0 {b : UInt8} (hb : b = 35) (acc : List UInt8) (k : Nat) : nameGo acc 0 [b] k = (3, [], 0) := by
  subst hb; rw [nameGo.eq_def]; rfl
theorem name_bad1 {b : UInt8} (hb : b = 35) (h1 : UInt8) (acc : List UInt8) (k : Nat) : nameGo acc 0 [b, h1] k = (3, [], 0) := by
  subst hb; rw [nameGo.eq_def]; rfl
theorem name_bad2 {b h1 h2 : UInt8} (hb : b = 35) (e : (isHex h1 && isHex h2) = false) (acc r : List UInt8) (k : Nat) : nameGo acc 0 (b :: h1 :: h2 :: r) k = (3, [], 0) := by
  subst hb; rw [nameGo.eq_def]; simp only [show reg 35 = true from rfl, e, if_true, beq_self_eq_true, Bool.false_eq_true, if_false]
theorem name_bad3 {b h1 : UInt8} (hb : b = 35) (e : isHex h1 = false) (acc r : List UInt8) (k : Nat) : nameGo acc 0 (b :: h1 :: r) k = (3, [], 0) := by
  cases r with
  | nil => exact name_bad1 hb h1 acc k
  | cons h2 r => exact name_bad2 hb (by rw [e]; rfl) acc r k

/-- Digits of 8: so far, at most n more. -/
def oct : Nat → Nat → List UInt8 → Nat × Nat
  | v, 0, _ => (v, 0)
  | v, _ + 1, [] => (v, 0)
  | v, n + 1, b :: r => if isOct b then ((oct (8 * v + (b.toNat - 48)) n r).1, (oct (8 * v + (b.toNat - 48)) n r).2 + 1) else (v, 0)
def escB (b : UInt8) : UInt8 := if b == 110 then 10 else if b == 114 then 13 else if b == 116 then 9 else if b == 98 then 8 else if b == 102 then 12 else b
/-- What a backslash's text is, and how many bytes it takes. -/
def esc (l : List UInt8) : List UInt8 × Nat :=
  match l with
  | [] => ([], 0)
  | b :: r =>
    if isOct b then ([UInt8.ofNat (oct 0 3 (b :: r)).1], (oct 0 3 (b :: r)).2)
    else if b == 13 then ([], 1 + crlf r)
    else if b == 10 then ([], 1)
    else ([escB b], 1)

theorem oct_le : ∀ (n v : Nat) (l : List UInt8), (oct v n l).2 ≤ l.length
  | 0, _, _ => by unfold oct; exact Nat.zero_le _
  | _ + 1, _, [] => by unfold oct; exact Nat.zero_le _
  | n + 1, v, b :: r => by
    have := oct_le n (8 * v + (b.toNat - 48)) r
    unfold oct; split <;> simp; omega
theorem crlf_le : ∀ l : List UInt8, crlf l ≤ l.length
  | [] => Nat.le_refl _
  | b :: r => by
    show (if b == 10 then 1 else 0) ≤ _
    split <;> simp
theorem esc_cons (b : UInt8) (r : List UInt8) : esc (b :: r) = if isOct b then ([UInt8.ofNat (oct 0 3 (b :: r)).1], (oct 0 3 (b :: r)).2) else if b == 13 then ([], 1 + crlf r) else if b == 10 then ([], 1) else ([escB b], 1) := rfl
theorem oct_pos {b : UInt8} (h : isOct b = true) (r : List UInt8) : 1 ≤ (oct 0 3 (b :: r)).2 := by
  unfold oct; rw [if_pos h]; simp
theorem esc_le {l : List UInt8} : (esc l).2 ≤ l.length := by
  cases l with
  | nil => exact Nat.le_refl _
  | cons b r =>
    rw [esc_cons]
    split
    · exact oct_le 3 0 (b :: r)
    · have := crlf_le r
      split
      · simp; omega
      · split <;> simp
theorem esc_len {l : List UInt8} : (esc l).1.length ≤ (esc l).2 := by
  cases l with
  | nil => exact Nat.le_refl _
  | cons b r =>
    rw [esc_cons]
    split
    · rename_i h; have := oct_pos h r; simpa using this
    · split
      · simp
      · split <;> simp
theorem esc_oct {b : UInt8} (h : isOct b = true) (r : List UInt8) : esc (b :: r) = ([UInt8.ofNat (oct (b.toNat - 48) 2 r).1], (oct (b.toNat - 48) 2 r).2 + 1) := by
  rw [esc_cons, if_pos h]
  conv => lhs; unfold oct
  rw [if_pos h]; simp
theorem esc_cr {b : UInt8} (h : b = 13) (r : List UInt8) : esc (b :: r) = ([], 1 + crlf r) := by subst h; rfl
theorem esc_lf {b : UInt8} (h : b = 10) (r : List UInt8) : esc (b :: r) = ([], 1) := by subst h; rfl
theorem esc_other {b : UInt8} (h : isOct b = false) (h1 : b ≠ 13) (h2 : b ≠ 10) (r : List UInt8) : esc (b :: r) = ([escB b], 1) := by
  rw [esc_cons, if_neg (by rw [h]; simp), if_neg (by simpa using h1), if_neg (by simpa using h2)]

/-- The Text behind "(". -/
def textGo : List UInt8 → Nat → Nat → List UInt8 → Nat → R3
  | _, _, _, [], _ => (4, [], 0)
  | acc, d, n + 1, _ :: r, k => textGo acc d n r (k + 1)
  | acc, d, 0, b :: r, k =>
    if b == 92 then textGo (acc ++ (esc r).1) d (esc r).2 r (k + 1)
    else if b == 40 then textGo (acc ++ [40]) (d + 1) 0 r (k + 1)
    else if b == 41 then
      match d with
      | 0 => (0, acc, k + 1)
      | d + 1 => textGo (acc ++ [41]) d 0 r (k + 1)
    else if b == 13 then textGo (acc ++ [10]) d (crlf r) r (k + 1)
    else textGo (acc ++ [b]) d 0 r (k + 1)

theorem text_pass (acc : List UInt8) (d : Nat) : ∀ (n : Nat) (l : List UInt8) (k : Nat), n ≤ l.length → textGo acc d n l k = textGo acc d 0 (l.drop n) (k + n)
  | 0, l, k, _ => rfl
  | n + 1, [], k, h => by simp at h
  | n + 1, b :: r, k, h => by
    rw [textGo, text_pass acc d n r (k + 1) (by simp at h; omega), List.drop_succ_cons]
    congr 1; omega
theorem text_end (acc : List UInt8) (d k : Nat) : textGo acc d 0 [] k = (4, [], 0) := by unfold textGo; rfl
theorem text_esc {b : UInt8} (h : b = 92) (acc : List UInt8) (d : Nat) (r : List UInt8) (k : Nat) : textGo acc d 0 (b :: r) k = textGo (acc ++ (esc r).1) d 0 (r.drop (esc r).2) (k + 1 + (esc r).2) := by
  subst h
  rw [textGo.eq_def]; simp only [beq_self_eq_true, if_true]
  exact text_pass _ _ _ _ _ esc_le
theorem text_open {b : UInt8} (h : b = 40) (acc : List UInt8) (d : Nat) (r : List UInt8) (k : Nat) : textGo acc d 0 (b :: r) k = textGo (acc ++ [40]) (d + 1) 0 r (k + 1) := by
  subst h; rw [textGo.eq_def]; rfl
theorem text_done {b : UInt8} (h : b = 41) (acc : List UInt8) (r : List UInt8) (k : Nat) : textGo acc 0 0 (b :: r) k = (0, acc, k + 1) := by
  subst h; rw [textGo.eq_def]; rfl
theorem text_close {b : UInt8} (h : b = 41) (acc : List UInt8) (d : Nat) (r : List UInt8) (k : Nat) : textGo acc (d + 1) 0 (b :: r) k = textGo (acc ++ [41]) d 0 r (k + 1) := by
  subst h; rw [textGo.eq_def]; rfl
theorem text_cr {b : UInt8} (h : b = 13) (acc : List UInt8) (d : Nat) (r : List UInt8) (k : Nat) : textGo acc d 0 (b :: r) k = textGo (acc ++ [10]) d 0 (r.drop (crlf r)) (k + 1 + crlf r) := by
  subst h
  rw [textGo.eq_def]; simp only [show ((13 : UInt8) == 92) = false from rfl, show ((13 : UInt8) == 40) = false from rfl, show ((13 : UInt8) == 41) = false from rfl, beq_self_eq_true, if_true, Bool.false_eq_true, if_false]
  exact text_pass _ _ _ _ _ (crlf_le r)
theorem text_byte {b : UInt8} (h1 : b ≠ 92) (h2 : b ≠ 40) (h3 : b ≠ 41) (h4 : b ≠ 13) (acc : List UInt8) (d : Nat) (r : List UInt8) (k : Nat) : textGo acc d 0 (b :: r) k = textGo (acc ++ [b]) d 0 r (k + 1) := by
  rw [textGo.eq_def]
  simp only [show (b == 92) = false by simpa using h1, show (b == 40) = false by simpa using h2, show (b == 41) = false by simpa using h3, show (b == 13) = false by simpa using h4, Bool.false_eq_true, if_false]

/-- The Text behind "<": whole bytes so far, and the half one. -/
def hexGo : List UInt8 → Option UInt8 → List UInt8 → Nat → R3
  | _, _, [], _ => (4, [], 0)
  | acc, h, b :: r, k =>
    if b == 62 then (0, acc ++ h.toList, k + 1)
    else if white b then hexGo acc h r (k + 1)
    else if isHex b then
      match h with
      | none => hexGo acc (some (hexV b <<< 4)) r (k + 1)
      | some u => hexGo (acc ++ [u ||| hexV b]) none r (k + 1)
    else (3, [], 0)

theorem hex_end (acc : List UInt8) (h : Option UInt8) (k : Nat) : hexGo acc h [] k = (4, [], 0) := by unfold hexGo; rfl
theorem hex_done {b : UInt8} (e : b = 62) (acc : List UInt8) (h : Option UInt8) (r : List UInt8) (k : Nat) : hexGo acc h (b :: r) k = (0, acc ++ h.toList, k + 1) := by
  subst e; rw [hexGo.eq_def]; rfl
theorem hex_white {b : UInt8} (e : b ≠ 62) (e' : white b = true) (acc : List UInt8) (h : Option UInt8) (r : List UInt8) (k : Nat) : hexGo acc h (b :: r) k = hexGo acc h r (k + 1) := by
  rw [hexGo.eq_def]; simp only [show (b == 62) = false by simpa using e, e', if_true, Bool.false_eq_true, if_false]
theorem hex_bad {b : UInt8} (e : b ≠ 62) (e' : white b = false) (e'' : isHex b = false) (acc : List UInt8) (h : Option UInt8) (r : List UInt8) (k : Nat) : hexGo acc h (b :: r) k = (3, [], 0) := by
  rw [hexGo.eq_def]; simp only [show (b == 62) = false by simpa using e, e', e'', Bool.false_eq_true, if_false]
theorem hex_is {b : UInt8} (e : isHex b = true) : b ≠ 62 ∧ white b = false := by
  have := byte_all (fun b => !isHex b || (!(b == 62) && !white b)) (by kernel_rfl) b
  rw [e] at this; simpa using this
theorem hex_first {b : UInt8} (e : isHex b = true) (acc r : List UInt8) (k : Nat) : hexGo acc none (b :: r) k = hexGo acc (some (hexV b <<< 4)) r (k + 1) := by
  rw [hexGo.eq_def]; simp only [show (b == 62) = false by simpa using (hex_is e).1, (hex_is e).2, e, if_true, Bool.false_eq_true, if_false]
theorem hex_second {b : UInt8} (e : isHex b = true) (acc r : List UInt8) (u : UInt8) (k : Nat) : hexGo acc (some u) (b :: r) k = hexGo (acc ++ [u ||| hexV b]) none r (k + 1) := by
  rw [hexGo.eq_def]; simp only [show (b == 62) = false by simpa using (hex_is e).1, (hex_is e).2, e, if_true, Bool.false_eq_true, if_false]

/-- A token: its kind, number, text, wholeness, place, and the place behind. -/
structure Tok where
  kind : Int
  f : Int
  s : List UInt8
  whole : Bool
  frm : Nat
  to : Nat
def zero : Tok := ⟨0, 0, [], false, 0, 0⟩

def pointIn (l : List UInt8) : Bool := decide (0 ≤ Lib.indexByte l 46)

/-- A Word or a Number. -/
def wordV (l : List UInt8) (k : Nat) : Int × Tok :=
  if numB ((l.drop k).headD 0) then
    if Fx.parseE ((l.drop k).take (tw reg (l.drop k))) = 0 then
      (0, ⟨1, Fx.parseV ((l.drop k).take (tw reg (l.drop k))), [], !pointIn ((l.drop k).take (tw reg (l.drop k))), 0, k + tw reg (l.drop k)⟩)
    else (Fx.parseE ((l.drop k).take (tw reg (l.drop k))), zero)
  else (0, ⟨8, 0, (l.drop k).take (tw reg (l.drop k)), false, 0, k + tw reg (l.drop k)⟩)

/-- A reader's answer as a token of a kind. -/
def ofR3 (kind : Int) (x : R3) : Int × Tok := if x.1 = 0 then (0, ⟨kind, 0, x.2.1, false, 0, x.2.2⟩) else (x.1, zero)

/-- The token that begins right at a place, without where it begins. -/
def tokV (l : List UInt8) (k : Nat) : Int × Tok :=
  match l.drop k with
  | [] => (0, ⟨0, 0, [], false, 0, k⟩)
  | b :: r =>
    if b == 91 then (0, ⟨4, 0, [], false, 0, k + 1⟩)
    else if b == 93 then (0, ⟨5, 0, [], false, 0, k + 1⟩)
    else if b == 60 then (if r.head? == some 60 then (0, ⟨6, 0, [], false, 0, k + 2⟩) else ofR3 3 (hexGo [] none r (k + 1)))
    else if b == 62 then (if r.head? == some 62 then (0, ⟨7, 0, [], false, 0, k + 2⟩) else (3, zero))
    else if b == 47 then ofR3 2 (nameGo [] 0 r (k + 1))
    else if b == 40 then ofR3 3 (textGo [] 0 0 r (k + 1))
    else if b == 41 || b == 123 || b == 125 then (3, zero)
    else wordV l k

/-- Next. -/
def nextV (l : List UInt8) (at_ : Int) : Int × Tok :=
  if 0 ≤ at_ ∧ at_ ≤ l.length then
    if (tokV l (spaceV l at_)).1 = 0 then (0, { (tokV l (spaceV l at_)).2 with frm := spaceV l at_ }) else ((tokV l (spaceV l at_)).1, zero)
  else (1, zero)

/-- A byte of a text as Quote tells it. -/
def octD (n : Nat) : UInt8 := UInt8.ofNat (48 + n)
def quoteB (b : UInt8) : List UInt8 :=
  if b == 40 || b == 41 || b == 92 then [92, b]
  else if b == 10 then [92, 110] else if b == 13 then [92, 114] else if b == 9 then [92, 116] else if b == 8 then [92, 98] else if b == 12 then [92, 102]
  else if printed b then [b]
  else [92, octD (b.toNat / 64), octD (b.toNat / 8 % 8), octD (b.toNat % 8)]
def quoteV (l : List UInt8) : List UInt8 := 40 :: (l.flatMap quoteB ++ [41])

def hexD (n : Nat) : UInt8 := if n < 10 then UInt8.ofNat (48 + n) else UInt8.ofNat (55 + n)
def nameB (b : UInt8) : List UInt8 := if reg b && b != 35 && printed b then [b] else [35, hexD (b.toNat / 16), hexD (b.toNat % 16)]
def nameV (l : List UInt8) : List UInt8 := 47 :: l.flatMap nameB

end Go.Proofs.Ytakbhdhlcnpejaa.Lx

namespace Go.Proofs.Ytakbhdhlcnpejaa.Lx

/-- An answer, n bytes further on. -/
def add3 (n : Nat) (x : R3) : R3 := if x.1 = 0 then (x.1, x.2.1, x.2.2 + n) else x

theorem name_shift (n : Nat) (acc : List UInt8) (m : Nat) (l : List UInt8) (k : Nat) : nameGo acc m l (k + n) = add3 n (nameGo acc m l k) := by
  fun_induction nameGo acc m l k with
  | case1 => unfold nameGo; rfl
  | case2 acc k m b r ih => rw [nameGo, ← ih]; congr 1; omega
  | case3 acc k b h1 h2 a c tail h3 ih =>
    rw [nameGo.eq_def]; simp only [h1, h2, h3, if_true]; rw [← ih]; congr 1; omega
  | case4 acc k b h1 h2 a c tail h3 =>
    rw [nameGo.eq_def]; simp only [h1, h2, h3, if_true, if_false, Bool.false_eq_true]; rfl
  | case5 acc b r k h1 h2 h3 =>
    rw [nameGo.eq_def]; simp only [h1, h2, if_true]
    match r, h3 with
    | [], _ => rfl
    | [_], _ => rfl
    | x :: y :: z, h3 => exact absurd rfl (h3 x y z)
  | case6 acc k b r h1 h2 ih =>
    rw [nameGo.eq_def]; simp only [h1, h2, if_true, if_false, Bool.false_eq_true]; rw [← ih]; congr 1; omega
  | case7 acc k b r h1 =>
    rw [nameGo.eq_def]; simp only [h1, if_false, Bool.false_eq_true]; rfl

theorem text_shift (n : Nat) (acc : List UInt8) (d m : Nat) (l : List UInt8) (k : Nat) : textGo acc d m l (k + n) = add3 n (textGo acc d m l k) := by
  fun_induction textGo acc d m l k with
  | case1 => unfold textGo; rfl
  | case2 acc d k m b r ih => rw [textGo, ← ih]; congr 1; omega
  | case3 acc d k b r h1 ih => rw [textGo.eq_def]; simp only [h1, if_true]; rw [← ih]; congr 1; omega
  | case4 acc d k b r h1 h2 ih => rw [textGo.eq_def]; simp only [h1, h2, if_true, if_false, Bool.false_eq_true]; rw [← ih]; congr 1; omega
  | case5 acc k b r h1 h2 h3 => rw [textGo.eq_def]; simp only [h1, h2, h3, if_true, if_false, Bool.false_eq_true]; unfold add3; simp; omega
  | case6 acc k b r h1 h2 h3 d ih => rw [textGo.eq_def]; simp only [h1, h2, h3, if_true, if_false, Bool.false_eq_true]; rw [← ih]; congr 1; omega
  | case7 acc d k b r h1 h2 h3 h4 ih => rw [textGo.eq_def]; simp only [h1, h2, h3, h4, if_true, if_false, Bool.false_eq_true]; rw [← ih]; congr 1; omega
  | case8 acc d k b r h1 h2 h3 h4 ih => rw [textGo.eq_def]; simp only [h1, h2, h3, h4, if_false, Bool.false_eq_true]; rw [← ih]; congr 1; omega

theorem hex_shift (n : Nat) (acc : List UInt8) (h : Option UInt8) (l : List UInt8) (k : Nat) : hexGo acc h l (k + n) = add3 n (hexGo acc h l k) := by
  fun_induction hexGo acc h l k with
  | case1 => unfold hexGo; rfl
  | case2 acc h b r k h1 => rw [hexGo.eq_def]; simp only [h1, if_true]; unfold add3; simp; omega
  | case3 acc h b r k h1 h2 ih => rw [hexGo.eq_def]; simp only [h1, h2, if_true, if_false, Bool.false_eq_true]; rw [← ih]; congr 1; omega
  | case4 acc b r k h1 h2 h3 ih => rw [hexGo.eq_def]; simp only [h1, h2, h3, if_true, if_false, Bool.false_eq_true]; rw [← ih]; congr 1; omega
  | case5 acc b r k h1 h2 h3 u ih => rw [hexGo.eq_def]; simp only [h1, h2, h3, if_true, if_false, Bool.false_eq_true]; rw [← ih]; congr 1; omega
  | case6 acc h b r k h1 h2 h3 => rw [hexGo.eq_def]; simp only [h1, h2, h3, if_false, Bool.false_eq_true]; rfl

/-- A token with its places n further on. -/
def addT (n : Nat) (x : Int × Tok) : Int × Tok := if x.1 = 0 then (x.1, { x.2 with to := x.2.to + n }) else x
theorem ofR3_add (n : Nat) (kind : Int) (x : R3) : ofR3 kind (add3 n x) = addT n (ofR3 kind x) := by
  unfold ofR3 add3 addT
  by_cases h : x.1 = 0
  · simp [h]
  · rw [if_neg h, if_neg h, if_neg h]

theorem tok_shift (a l : List UInt8) (k : Nat) : tokV (a ++ l) (k + a.length) = addT a.length (tokV l k) := by
  have hd : (a ++ l).drop (k + a.length) = l.drop k := by rw [Nat.add_comm, ← List.drop_drop, List.drop_left]
  have hw : wordV (a ++ l) (k + a.length) = addT a.length (wordV l k) := by
    unfold wordV
    rw [hd]
    unfold addT
    split
    · split
      · simp; omega
      · simp
    · simp; omega
  unfold tokV
  rw [hd]
  cases l.drop k with
  | nil => rfl
  | cons b r =>
    simp only []
    rw [show k + a.length + 1 = k + 1 + a.length by omega, show k + a.length + 2 = k + 2 + a.length by omega, hw, hex_shift, name_shift, text_shift, ofR3_add, ofR3_add, ofR3_add]
    split
    · rfl
    split
    · rfl
    split
    · split <;> rfl
    split
    · split <;> rfl
    split
    · rfl
    split
    · rfl
    split <;> rfl

theorem next_zero (l : List UInt8) : nextV l 0 = if (tokV l (spc false l)).1 = 0 then (0, { (tokV l (spc false l)).2 with frm := spc false l }) else ((tokV l (spc false l)).1, zero) := by
  have hs : spaceV l 0 = spc false l := by
    unfold spaceV
    have h0 : (min (max (0 : Int) 0) (l.length : Int)).toNat = 0 := by omega
    rw [h0, List.drop_zero]; omega
  unfold nextV
  rw [if_pos ⟨by omega, by omega⟩, hs]

theorem spc_comment : ∀ (c r : List UInt8), (∀ b ∈ c, inLine b = true) → spc true (c ++ r) = c.length + spc true r
  | [], r, _ => by simp
  | b :: c, r, h => by
    rw [List.cons_append, spc, if_pos (h b List.mem_cons_self), spc_comment c r (fun x hx => h x (List.mem_cons_of_mem _ hx))]
    simp; omega

/-- White and a comment ahead move a token, and nothing else. -/
theorem next_spaces (c l : List UInt8) (hc : ∀ b ∈ c, inLine b = true) :
    nextV ([32, 9, 37] ++ c ++ [10, 0] ++ l) 0 = if (nextV l 0).1 = 0 then (0, { (nextV l 0).2 with frm := (nextV l 0).2.frm + (c.length + 5), to := (nextV l 0).2.to + (c.length + 5) }) else nextV l 0 := by
  have hsp : spc false ([32, 9, 37] ++ c ++ [10, 0] ++ l) = spc false l + (c.length + 5) := by
    have e : [32, 9, 37] ++ c ++ [10, 0] ++ l = 32 :: 9 :: 37 :: (c ++ (10 :: 0 :: l)) := by simp
    rw [e, spc, if_pos (show white 32 = true from rfl), spc, if_pos (show white 9 = true from rfl), spc, if_neg (show ¬ white 37 = true by decide), if_pos (show ((37 : UInt8) == 37) = true from rfl), spc_comment c _ hc, spc, if_neg (show ¬ inLine 10 = true by decide), spc, if_pos (show white 0 = true from rfl)]
    omega
  have hlen : ([32, 9, 37] ++ c ++ [10, 0]).length = c.length + 5 := by simp
  have ht := tok_shift ([32, 9, 37] ++ c ++ [10, 0]) l (spc false l)
  rw [hlen] at ht
  rw [next_zero, hsp, ht, next_zero]
  unfold addT
  by_cases h : (tokV l (spc false l)).1 = 0
  · simp [h]
  · simp [h]

end Go.Proofs.Ytakbhdhlcnpejaa.Lx

namespace Go.Proofs.Ytakbhdhlcnpejaa.Lx

theorem name_bd (acc : List UInt8) (m : Nat) (l : List UInt8) (k : Nat) : (nameGo acc m l k).1 = 0 → k ≤ (nameGo acc m l k).2.2 ∧ (nameGo acc m l k).2.2 ≤ k + l.length := by
  fun_induction nameGo acc m l k with
  | case1 => intro _; simp
  | case2 acc k m b r ih => intro h; have := ih h; simp only [List.length_cons]; omega
  | case3 acc k b h1 h2 a c tail h3 ih => intro h; have := ih h; simp only [List.length_cons] at this ⊢; omega
  | case4 => intro h; simp at h
  | case5 => intro h; simp at h
  | case6 acc k b r h1 h2 ih => intro h; have := ih h; simp only [List.length_cons]; omega
  | case7 => intro _; simp

theorem text_bd (acc : List UInt8) (d m : Nat) (l : List UInt8) (k : Nat) : (textGo acc d m l k).1 = 0 → k < (textGo acc d m l k).2.2 ∧ (textGo acc d m l k).2.2 ≤ k + l.length := by
  fun_induction textGo acc d m l k with
  | case1 => intro h; simp at h
  | case5 => intro _; simp
  | case2 acc d k m b r ih => intro h; have := ih h; simp only [List.length_cons]; omega
  | case3 acc d k b r h1 ih => intro h; have := ih h; simp only [List.length_cons]; omega
  | case4 acc d k b r h1 h2 ih => intro h; have := ih h; simp only [List.length_cons]; omega
  | case6 acc k b r h1 h2 h3 d ih => intro h; have := ih h; simp only [List.length_cons]; omega
  | case7 acc d k b r h1 h2 h3 h4 ih => intro h; have := ih h; simp only [List.length_cons]; omega
  | case8 acc d k b r h1 h2 h3 h4 ih => intro h; have := ih h; simp only [List.length_cons]; omega

theorem hex_bd (acc : List UInt8) (h : Option UInt8) (l : List UInt8) (k : Nat) : (hexGo acc h l k).1 = 0 → k < (hexGo acc h l k).2.2 ∧ (hexGo acc h l k).2.2 ≤ k + l.length := by
  fun_induction hexGo acc h l k with
  | case1 => intro h; simp at h
  | case2 => intro _; simp
  | case3 acc h b r k h1 h2 ih => intro h; have := ih h; simp only [List.length_cons]; omega
  | case4 acc b r k h1 h2 h3 ih => intro h; have := ih h; simp only [List.length_cons]; omega
  | case5 acc b r k h1 h2 h3 u ih => intro h; have := ih h; simp only [List.length_cons]; omega
  | case6 => intro h; simp at h

theorem ofR3_to {kind : Int} {x : R3} (h : (ofR3 kind x).1 = 0) : x.1 = 0 ∧ (ofR3 kind x).2 = ⟨kind, 0, x.2.1, false, 0, x.2.2⟩ := by
  unfold ofR3 at h ⊢
  by_cases e : x.1 = 0
  · rw [if_pos e]; exact ⟨e, rfl⟩
  · rw [if_neg e] at h; exact absurd h e

/-- Of a token that is one: at the end it is End; else it is none, and ends behind where it begins. -/
theorem tok_bd (l : List UInt8) (k : Nat) (hk : k ≤ l.length) (hs : spc false (l.drop k) = 0) (h : (tokV l k).1 = 0) :
    (k = l.length ∧ (tokV l k).2 = ⟨0, 0, [], false, 0, k⟩) ∨ (k < l.length ∧ (tokV l k).2.kind ≠ 0 ∧ k < (tokV l k).2.to ∧ (tokV l k).2.to ≤ l.length ∧ (tokV l k).2.frm = 0) := by
  have hlen : (l.drop k).length = l.length - k := List.length_drop
  have hw : wordV l k = wordV l k := rfl
  unfold tokV at h ⊢
  cases hd : l.drop k with
  | nil =>
    rw [hd] at hlen
    exact .inl ⟨by simp at hlen; omega, rfl⟩
  | cons b r =>
    rw [hd] at h hlen hs
    simp only [List.length_cons] at hlen
    simp only [] at h ⊢
    right
    refine ⟨by omega, ?_⟩
    by_cases h91 : (b == 91) = true
    · rw [if_pos h91]; simp; omega
    rw [if_neg h91] at h ⊢
    by_cases h93 : (b == 93) = true
    · rw [if_pos h93]; simp; omega
    rw [if_neg h93] at h ⊢
    by_cases h60 : (b == 60) = true
    · rw [if_pos h60] at h ⊢
      by_cases h2 : (r.head? == some 60) = true
      · rw [if_pos h2]
        have : 0 < r.length := by cases r with | nil => simp at h2 | cons _ _ => simp
        simp; omega
      · rw [if_neg h2] at h ⊢
        obtain ⟨e, he⟩ := ofR3_to h
        have := hex_bd _ _ _ _ e
        rw [he]; simp; omega
    rw [if_neg h60] at h ⊢
    by_cases h62 : (b == 62) = true
    · rw [if_pos h62] at h ⊢
      by_cases h2 : (r.head? == some 62) = true
      · rw [if_pos h2]
        have : 0 < r.length := by cases r with | nil => simp at h2 | cons _ _ => simp
        simp; omega
      · rw [if_neg h2] at h; simp at h
    rw [if_neg h62] at h ⊢
    by_cases h47 : (b == 47) = true
    · rw [if_pos h47] at h ⊢
      obtain ⟨e, he⟩ := ofR3_to h
      have := name_bd _ _ _ _ e
      rw [he]; simp; omega
    rw [if_neg h47] at h ⊢
    by_cases h40 : (b == 40) = true
    · rw [if_pos h40] at h ⊢
      obtain ⟨e, he⟩ := ofR3_to h
      have := text_bd _ _ _ _ _ e
      rw [he]; simp; omega
    rw [if_neg h40] at h ⊢
    by_cases h41 : (b == 41 || b == 123 || b == 125) = true
    · rw [if_pos h41] at h; simp at h
    rw [if_neg h41] at h ⊢
    have hreg : reg b = true := by
      have hwh : white b = false ∧ (b == 37) = false := by
        rw [spc] at hs
        cases e1 : white b
        · cases e2 : (b == 37)
          · exact ⟨rfl, rfl⟩
          · rw [e1, e2] at hs; simp at hs
        · rw [e1] at hs; simp at hs
      have := byte_all (fun c => white c || c == 91 || c == 93 || c == 60 || c == 62 || c == 47 || c == 40 || (c == 41 || c == 123 || c == 125) || c == 37 || reg c) (by kernel_rfl) b
      simp only [Bool.not_eq_true] at h91 h93 h60 h62 h47 h40 h41
      rw [hwh.1, h91, h93, h60, h62, h47, h40, h41, hwh.2] at this
      exact this
    have htw : 1 ≤ tw reg (l.drop k) ∧ tw reg (l.drop k) ≤ l.length - k := by
      constructor
      · rw [hd, tw, if_pos hreg]; omega
      · have := tw_le reg (l.drop k); rw [List.length_drop] at this; exact this
    unfold wordV at h ⊢
    split
    · rename_i h1
      rw [if_pos h1] at h
      split
      · simp; omega
      · rename_i h2; rw [if_neg h2] at h; simp at h; exact absurd h h2
    · simp; omega

theorem rest_zero : ∀ (c : Bool) (l : List UInt8), spc false (l.drop (spc c l)) = 0
  | c, [] => by rw [List.drop_nil]; rfl
  | true, b :: r => by
    rw [spc]
    split
    · rw [List.drop_succ_cons]; exact rest_zero true r
    · rw [List.drop_succ_cons]; exact rest_zero false r
  | false, b :: r => by
    cases hw : white b
    · by_cases h37 : (b == 37) = true
      · rw [spc, hw, if_neg (by simp), if_pos h37, List.drop_succ_cons]; exact rest_zero true r
      · rw [show spc false (b :: r) = 0 by rw [spc, hw, if_neg (by simp), if_neg h37], List.drop_zero, spc, hw, if_neg (by simp), if_neg h37]
    · rw [spc, hw, if_pos rfl, List.drop_succ_cons]; exact rest_zero false r

theorem space_bd (l : List UInt8) (a : Int) (h0 : 0 ≤ a) (h1 : a ≤ l.length) : a ≤ (spaceV l a : Int) ∧ spaceV l a ≤ l.length ∧ spc false (l.drop (spaceV l a)) = 0 := by
  unfold spaceV
  refine ⟨by omega, ?_, ?_⟩
  · have := spc_le false (l.drop (min (max a 0) (l.length : Int)).toNat)
    simp at this; omega
  · rw [← List.drop_drop]; exact rest_zero _ _

/-- Where a token that is one stands. -/
theorem next_bd (l : List UInt8) (a : Int) (h : (nextV l a).1 = 0) : 0 ≤ a ∧ a ≤ l.length ∧ a ≤ ((nextV l a).2.frm : Int) ∧ (nextV l a).2.frm ≤ l.length ∧ (nextV l a).2.frm ≤ (nextV l a).2.to ∧ (nextV l a).2.to ≤ l.length ∧
    (((nextV l a).2.kind = 0 ∧ (nextV l a).2.frm = l.length ∧ (nextV l a).2.to = (nextV l a).2.frm) ∨ ((nextV l a).2.kind ≠ 0 ∧ (nextV l a).2.frm < l.length ∧ (nextV l a).2.frm < (nextV l a).2.to)) := by
  unfold nextV at h ⊢
  by_cases hin : 0 ≤ a ∧ a ≤ (l.length : Int)
  · rw [if_pos hin] at h ⊢
    obtain ⟨b1, b2, b3⟩ := space_bd l a hin.1 hin.2
    by_cases he : (tokV l (spaceV l a)).1 = 0
    · rw [if_pos he]
      rcases tok_bd l _ b2 b3 he with ⟨h1, h2⟩ | ⟨h1, h2, h3, h4, h5⟩
      · rw [h2]; simp; omega
      · simp only []; omega
    · rw [if_neg he] at h; exact absurd h he
  · rw [if_neg hin] at h; simp at h

end Go.Proofs.Ytakbhdhlcnpejaa.Lx

namespace Go.Proofs.Ytakbhdhlcnpejaa.Cx

inductive Ob where
  | mk (k n f : Int) (s : ByteArray) (l : List Ob) (d : List (ByteArray × Ob))

abbrev Entr := ByteArray × Ob
def Ob.k : Ob → Int | .mk k _ _ _ _ _ => k
def Ob.n : Ob → Int | .mk _ n _ _ _ _ => n
def Ob.f : Ob → Int | .mk _ _ f _ _ _ => f
def Ob.s : Ob → ByteArray | .mk _ _ _ s _ _ => s
def Ob.l : Ob → List Ob | .mk _ _ _ _ l _ => l
def Ob.d : Ob → List Entr | .mk _ _ _ _ _ d => d
theorem Ob.eta (o : Ob) : o = .mk o.k o.n o.f o.s o.l o.d := by cases o; rfl
def nul : Ob := .mk 0 0 0 ⟨#[]⟩ [] []
def Ob.ents (o : Ob) : Bool := o.k == 6 || o.k == 8

/-- Texts are held against each other as the program does. -/
def keq (a b : ByteArray) : Bool := a.toList == b.toList
theorem toList_inj {a b : ByteArray} (h : a.toList = b.toList) : a = b := by
  rw [Lib.toList_data, Lib.toList_data] at h
  have h1 := Array.toList_inj.1 h
  cases a; cases b; simp only at h1; rw [h1]
theorem keq_iff {a b : ByteArray} : keq a b = true ↔ a = b := by
  unfold keq; rw [beq_iff_eq]; exact ⟨toList_inj, fun h => by rw [h]⟩
theorem keq_self (a : ByteArray) : keq a a = true := keq_iff.2 rfl
theorem keq_comm (a b : ByteArray) : keq a b = keq b a := by
  rw [Bool.eq_iff_iff, keq_iff, keq_iff]; exact eq_comm
theorem keq_no {a b : ByteArray} (h : a ≠ b) : keq a b = false := by
  cases e : keq a b
  · rfl
  · exact absurd (keq_iff.1 e) h

/-- The first entry's object of a key. -/
def getD : List Entr → ByteArray → Ob
  | [], _ => nul
  | e :: r, key => if keq e.1 key then e.2 else getD r key
def hasK : List Entr → ByteArray → Bool
  | [], _ => false
  | e :: r, key => keq e.1 key || hasK r key
/-- Where the first entry of a key stands; the length, if there is none. -/
def idxK : List Entr → ByteArray → Nat
  | [], _ => 0
  | e :: r, key => if keq e.1 key then 0 else idxK r key + 1
def get (o : Ob) (key : ByteArray) : Ob := if o.ents then getD o.d key else nul

/-- Set's loop: is it set already? what is left. -/
def setGo (key : ByteArray) (v : Ob) : Bool → List Entr → List Entr
  | set, [] => if set then [] else [(key, v)]
  | set, e :: r => if keq e.1 key then (if set then setGo key v set r else (key, v) :: setGo key v true r) else e :: setGo key v set r
def setD (d : List Entr) (key : ByteArray) (v : Ob) : List Entr := setGo key v (v.k == 0) d
def set (o : Ob) (key : ByteArray) (v : Ob) : Ob := if o.ents then .mk o.k o.n o.f o.s o.l (setD o.d key v) else o

mutual
def Ob.count : Ob → Nat
  | .mk k _ _ _ l d => 1 + (if k = 5 then countL l else 0) + (if k = 6 ∨ k = 8 then countD d else 0)
def countL : List Ob → Nat
  | [] => 0
  | x :: r => x.count + countL r
def countD : List (ByteArray × Ob) → Nat
  | [] => 0
  | (_, x) :: r => x.count + countD r
end

theorem count_mk (k n f : Int) (s : ByteArray) (l : List Ob) (d : List Entr) : (Ob.mk k n f s l d).count = 1 + (if k = 5 then countL l else 0) + (if k = 6 ∨ k = 8 then countD d else 0) := by rw [Ob.count]
theorem countL_cons (x : Ob) (r : List Ob) : countL (x :: r) = x.count + countL r := by rw [countL]
theorem countD_cons (e : Entr) (r : List Entr) : countD (e :: r) = e.2.count + countD r := by cases e; rw [countD]
theorem countL_append : ∀ a b : List Ob, countL (a ++ b) = countL a + countL b
  | [], b => by rw [List.nil_append, countL, Nat.zero_add]
  | x :: a, b => by rw [List.cons_append, countL, countL, countL_append a b]; omega
theorem countD_append : ∀ a b : List Entr, countD (a ++ b) = countD a + countD b
  | [], b => by rw [List.nil_append, countD, Nat.zero_add]
  | x :: a, b => by rw [List.cons_append, countD_cons, countD_cons, countD_append a b]; omega
theorem countL_take_succ (l : List Ob) (i : Nat) (h : i < l.length) : countL (l.take (i + 1)) = countL (l.take i) + l[i].count := by
  rw [List.take_succ_eq_append_getElem h, countL_append, countL_cons, countL]; omega
theorem countD_take_succ (l : List Entr) (i : Nat) (h : i < l.length) : countD (l.take (i + 1)) = countD (l.take i) + l[i].2.count := by
  rw [List.take_succ_eq_append_getElem h, countD_append, countD_cons, countD]; omega
theorem countL_take_le (l : List Ob) (i : Nat) : countL (l.take i) ≤ countL l := by
  have := countL_append (l.take i) (l.drop i)
  rw [List.take_append_drop] at this; omega
theorem countD_take_le (l : List Entr) (i : Nat) : countD (l.take i) ≤ countD l := by
  have := countD_append (l.take i) (l.drop i)
  rw [List.take_append_drop] at this; omega
theorem countL_mem_le {l : List Ob} {x : Ob} (h : x ∈ l) : x.count ≤ countL l := by
  induction l with
  | nil => simp at h
  | cons y r ih =>
    rw [countL_cons]
    rcases List.mem_cons.1 h with rfl | h
    · omega
    · have := ih h; omega
theorem countD_mem_le {l : List Entr} {x : Entr} (h : x ∈ l) : x.2.count ≤ countD l := by
  induction l with
  | nil => simp at h
  | cons y r ih =>
    rw [countD_cons]
    rcases List.mem_cons.1 h with rfl | h
    · omega
    · have := ih h; omega

theorem sizeOf_l {o x : Ob} (h : x ∈ o.l) : SizeOf.sizeOf x < SizeOf.sizeOf o := by
  cases o
  have := List.sizeOf_lt_of_mem h
  simp only [Ob.l] at this
  simp only [Ob.mk.sizeOf_spec]; omega
theorem sizeOf_d {o : Ob} {e : Entr} (h : e ∈ o.d) : SizeOf.sizeOf e.2 < SizeOf.sizeOf o := by
  cases o
  have h1 := List.sizeOf_lt_of_mem h
  simp only [Ob.d] at h1
  have h2 : SizeOf.sizeOf e.2 < SizeOf.sizeOf e := by cases e; simp; omega
  simp only [Ob.mk.sizeOf_spec]; omega

/- The text's own side. -/
open Lx

def wholeT (t : Tok) : Bool := t.kind == 1 && t.whole && decide (0 ≤ t.f)
def isW (t : Tok) (s : List UInt8) : Bool := t.kind == 8 && t.s == s
def str (l : List UInt8) : ByteArray := ⟨l.toArray⟩
def numV (t : Tok) : Ob := .mk 2 (if t.whole then 1 else 0) t.f ⟨#[]⟩ [] []
/-- A token, as a reader that forgets errors takes it. -/
def tokOf (x : Int × Tok) : Tok := if x.1 = 0 then x.2 else zero
/-- A Num or a Ref, and the place behind. -/
def numberV (l : List UInt8) (t : Tok) : Ob × Nat :=
  if wholeT t then
    if wholeT (tokOf (nextV l t.to)) then
      if isW (tokOf (nextV l (tokOf (nextV l t.to)).to)) [82] then (.mk 7 (t.f.tdiv 1000) (tokOf (nextV l t.to)).f ⟨#[]⟩ [] [], (tokOf (nextV l (tokOf (nextV l t.to)).to)).to)
      else (numV t, t.to)
    else (numV t, t.to)
  else (numV t, t.to)
def wordV (s : List UInt8) : Int × Ob :=
  if s == [116, 114, 117, 101] then (0, .mk 1 1 0 ⟨#[]⟩ [] [])
  else if s == [102, 97, 108, 115, 101] then (0, .mk 1 0 0 ⟨#[]⟩ [] [])
  else if s == [110, 117, 108, 108] then (0, nul)
  else (3, nul)
/-- Entries as they were written, settled. -/
def settle (d : List Entr) : List Entr := d.foldl (fun a e => setD a e.1 e.2) []

mutual
/-- The object that begins with a token; fuel, and how deep. -/
def objOf : Nat → List UInt8 → Nat → Tok → Int × Ob × Nat
  | 0, _, _, _ => (3, nul, 0)
  | F + 1, l, dep, t =>
    if t.kind = 0 then (4, nul, 0)
    else if t.kind = 1 then (0, (numberV l t).1, (numberV l t).2)
    else if t.kind = 2 then (0, .mk 3 0 0 (str t.s) [] [], t.to)
    else if t.kind = 3 then (0, .mk 4 0 0 (str t.s) [] [], t.to)
    else if t.kind = 8 then ((wordV t.s).1, (wordV t.s).2, if (wordV t.s).1 = 0 then t.to else 0)
    else if t.kind = 4 then
      if dep = 64 then (5, nul, 0)
      else if (upO F l (dep + 1) [] t.to).1 = 0 then (0, .mk 5 0 0 ⟨#[]⟩ (upO F l (dep + 1) [] t.to).2.1 [], (upO F l (dep + 1) [] t.to).2.2)
      else ((upO F l (dep + 1) [] t.to).1, nul, 0)
    else if t.kind = 6 then
      if dep = 64 then (5, nul, 0)
      else if (upE F l (dep + 1) [] t.to).1 = 0 then (0, .mk 6 0 0 ⟨#[]⟩ [] (settle (upE F l (dep + 1) [] t.to).2.1), (upE F l (dep + 1) [] t.to).2.2)
      else ((upE F l (dep + 1) [] t.to).1, nul, 0)
    else (3, nul, 0)
/-- Objects up to Close. -/
def upO : Nat → List UInt8 → Nat → List Ob → Nat → Int × List Ob × Nat
  | 0, _, _, _, _ => (3, [], 0)
  | F + 1, l, dep, acc, at_ =>
    if (nextV l at_).1 ≠ 0 then ((nextV l at_).1, [], 0)
    else if (nextV l at_).2.kind = 5 then (0, acc, (nextV l at_).2.to)
    else if (nextV l at_).2.kind = 0 then (4, [], 0)
    else if acc.length = 1024 then (6, [], 0)
    else if (objOf F l dep (nextV l at_).2).1 = 0 then upO F l dep (acc ++ [(objOf F l dep (nextV l at_).2).2.1]) (objOf F l dep (nextV l at_).2).2.2
    else ((objOf F l dep (nextV l at_).2).1, [], 0)
/-- Entries up to Finish. -/
def upE : Nat → List UInt8 → Nat → List Entr → Nat → Int × List Entr × Nat
  | 0, _, _, _, _ => (3, [], 0)
  | F + 1, l, dep, acc, at_ =>
    if (nextV l at_).1 ≠ 0 then ((nextV l at_).1, [], 0)
    else if (nextV l at_).2.kind = 7 then (0, acc, (nextV l at_).2.to)
    else if (nextV l at_).2.kind = 0 then (4, [], 0)
    else if acc.length = 1024 then (6, [], 0)
    else if (entOf F l dep (nextV l at_).2).1 = 0 then upE F l dep (acc ++ [(entOf F l dep (nextV l at_).2).2.1]) (entOf F l dep (nextV l at_).2).2.2
    else ((entOf F l dep (nextV l at_).2).1, [], 0)
/-- The entry whose key is a token. -/
def entOf : Nat → List UInt8 → Nat → Tok → Int × Entr × Nat
  | 0, _, _, _ => (3, (⟨#[]⟩, nul), 0)
  | F + 1, l, dep, t =>
    if t.kind ≠ 2 then (3, (⟨#[]⟩, nul), 0)
    else if (nextV l t.to).1 ≠ 0 then ((nextV l t.to).1, (⟨#[]⟩, nul), 0)
    else if (objOf F l dep (nextV l t.to).2).1 = 0 then (0, (str t.s, (objOf F l dep (nextV l t.to).2).2.1), (objOf F l dep (nextV l t.to).2).2.2)
    else ((objOf F l dep (nextV l t.to).2).1, (⟨#[]⟩, nul), 0)
end

/-- The object at a place, and the place behind it. -/
def parse (l : List UInt8) (at_ : Int) : Int × Ob × Nat :=
  if (nextV l at_).1 ≠ 0 then ((nextV l at_).1, nul, 0)
  else objOf (3 * l.length + 2) l 0 (nextV l at_).2

end Go.Proofs.Ytakbhdhlcnpejaa.Cx

namespace Go.Proofs.Ytakbhdhlcnpejaa.Lx

theorem chkV_bd (x : Int) : -2147483648 ≤ Fx.chkV x ∧ Fx.chkV x ≤ 2147483648 := by
  unfold Fx.chkV
  split
  · next h => exact ⟨Fx.sane_lo h, Fx.sane_hi h⟩
  · omega
theorem parseV_bd (l : List UInt8) : -2147483648 ≤ Fx.parseV l ∧ Fx.parseV l ≤ 2147483648 := by
  unfold Fx.parseV
  split
  · omega
  · split
    · exact chkV_bd _
    · omega

theorem lo0 : (-2147483648 : Int) ≤ 0 := by decide
theorem hi0 : (0 : Int) ≤ 2147483648 := by decide
theorem esc_one (l : List UInt8) : (esc l).1.length ≤ 1 := by
  cases l with
  | nil => simp [esc]
  | cons b r => rw [esc_cons]; repeat' split
                all_goals simp
theorem name_len (acc : List UInt8) (m : Nat) (l : List UInt8) (k : Nat) : (nameGo acc m l k).2.1.length ≤ acc.length + l.length := by
  fun_induction nameGo acc m l k with
  | case1 => simp
  | case2 acc k m b r ih => simp only [List.length_cons]; omega
  | case3 acc k b h1 h2 a c tail h3 ih => simp only [List.length_cons, List.length_append, List.length_nil] at ih ⊢; omega
  | case4 => simp
  | case5 => simp
  | case6 acc k b r h1 h2 ih => simp only [List.length_cons, List.length_append, List.length_nil] at ih ⊢; omega
  | case7 => simp
theorem text_len (acc : List UInt8) (d m : Nat) (l : List UInt8) (k : Nat) : (textGo acc d m l k).2.1.length ≤ acc.length + l.length := by
  fun_induction textGo acc d m l k with
  | case1 => simp
  | case5 => simp
  | case2 acc d k m b r ih => simp only [List.length_cons]; omega
  | case3 acc d b r k h1 ih => have := esc_one r; simp only [List.length_cons, List.length_append] at ih ⊢; omega
  | case4 acc d k b r h1 h2 ih => simp only [List.length_cons, List.length_append, List.length_nil] at ih ⊢; omega
  | case6 acc k b r h1 h2 h3 d ih => simp only [List.length_cons, List.length_append, List.length_nil] at ih ⊢; omega
  | case7 acc d k b r h1 h2 h3 h4 ih => simp only [List.length_cons, List.length_append, List.length_nil] at ih ⊢; omega
  | case8 acc d k b r h1 h2 h3 h4 ih => simp only [List.length_cons, List.length_append, List.length_nil] at ih ⊢; omega
theorem hex_len (acc : List UInt8) (h : Option UInt8) (l : List UInt8) (k : Nat) : (hexGo acc h l k).2.1.length ≤ acc.length + h.toList.length + l.length := by
  fun_induction hexGo acc h l k with
  | case1 => simp
  | case2 => simp
  | case3 acc h b r k h1 h2 ih => simp only [List.length_cons]; omega
  | case4 acc b r k h1 h2 h3 ih => simp only [List.length_cons, Option.toList, List.length_nil] at ih ⊢; omega
  | case5 acc b r k h1 h2 h3 u ih => simp only [List.length_cons, List.length_append, Option.toList, List.length_nil] at ih ⊢; omega
  | case6 => simp

theorem ofR3_len {kind : Int} {x : R3} : (ofR3 kind x).2.f = 0 ∧ (ofR3 kind x).2.s.length ≤ x.2.1.length := by
  unfold ofR3; split
  · exact ⟨rfl, Nat.le_refl _⟩
  · exact ⟨rfl, Nat.zero_le _⟩
theorem wordV_len (l : List UInt8) (k : Nat) : -2147483648 ≤ (wordV l k).2.f ∧ (wordV l k).2.f ≤ 2147483648 ∧ (wordV l k).2.s.length ≤ l.length := by
  unfold wordV
  have h1 := parseV_bd ((l.drop k).take (tw reg (l.drop k)))
  split
  · split
    · exact ⟨h1.1, h1.2, Nat.zero_le _⟩
    · exact ⟨lo0, hi0, Nat.zero_le _⟩
  · refine ⟨lo0, hi0, ?_⟩
    simp only [List.length_take, List.length_drop]; omega
theorem tok_len (l : List UInt8) (k : Nat) : -2147483648 ≤ (tokV l k).2.f ∧ (tokV l k).2.f ≤ 2147483648 ∧ (tokV l k).2.s.length ≤ l.length := by
  have hr : ∀ (kind : Int) (x : R3) (n : Nat), x.2.1.length ≤ n → n ≤ l.length → -2147483648 ≤ (ofR3 kind x).2.f ∧ (ofR3 kind x).2.f ≤ 2147483648 ∧ (ofR3 kind x).2.s.length ≤ l.length := fun kind x n h1 h2 => by
    have := @ofR3_len kind x
    rw [this.1]; omega
  have hlen : (l.drop k).length = l.length - k := List.length_drop
  unfold tokV
  cases hd : l.drop k with
  | nil => exact ⟨lo0, hi0, Nat.zero_le _⟩
  | cons b r =>
    rw [hd] at hlen
    simp only [List.length_cons] at hlen
    simp only []
    have z : ∀ (e kd : Int) (to_ : Nat), -2147483648 ≤ (((e, ⟨kd, 0, [], false, 0, to_⟩) : Int × Tok)).2.f ∧ (((e, ⟨kd, 0, [], false, 0, to_⟩) : Int × Tok)).2.f ≤ 2147483648 ∧ (((e, ⟨kd, 0, [], false, 0, to_⟩) : Int × Tok)).2.s.length ≤ l.length := fun _ _ _ => ⟨lo0, hi0, Nat.zero_le _⟩
    split
    · exact z _ _ _
    · split
      · exact z _ _ _
      · split
        · split
          · exact z _ _ _
          · exact hr _ _ r.length (by have := hex_len [] none r (k + 1); simpa using this) (by omega)
        · split
          · split
            · exact z _ _ _
            · exact z _ _ _
          · split
            · exact hr _ _ r.length (by have := name_len [] 0 r (k + 1); simpa using this) (by omega)
            · split
              · exact hr _ _ r.length (by have := text_len [] 0 0 r (k + 1); simpa using this) (by omega)
              · split
                · exact z _ _ _
                · exact wordV_len l k
theorem next_len (l : List UInt8) (a : Int) : -2147483648 ≤ (nextV l a).2.f ∧ (nextV l a).2.f ≤ 2147483648 ∧ (nextV l a).2.s.length ≤ l.length := by
  unfold nextV
  split
  · split
    · exact tok_len l _
    · exact ⟨lo0, hi0, Nat.zero_le _⟩
  · exact ⟨lo0, hi0, Nat.zero_le _⟩

/-- A token in the place of none: the zero one, an End, at 0. -/
theorem next_to (l : List UInt8) (a : Int) : (nextV l a).2.to ≤ l.length := by
  by_cases h : (nextV l a).1 = 0
  · exact (next_bd l a h).2.2.2.2.2.1
  · have : (nextV l a).2 = zero := by
      unfold nextV at h ⊢
      split
      · split
        · next h1 h2 => rw [if_pos h1, if_pos h2] at h; exact absurd rfl h
        · rfl
      · rfl
    rw [this]; exact Nat.zero_le _
theorem next_zero_of (l : List UInt8) (a : Int) (h : (nextV l a).1 ≠ 0) : (nextV l a).2 = zero := by
  unfold nextV at h ⊢
  split
  · split
    · next h1 h2 => rw [if_pos h1, if_pos h2] at h; exact absurd rfl h
    · rfl
  · rfl
theorem tokOf_next (l : List UInt8) (a : Int) : Cx.tokOf (nextV l a) = (nextV l a).2 := by
  unfold Cx.tokOf
  split
  · rfl
  · next h => rw [next_zero_of l a h]

end Go.Proofs.Ytakbhdhlcnpejaa.Lx

namespace Go.Proofs.Ytakbhdhlcnpejaa.Cx
open Lx
set_option linter.unusedSimpArgs false
set_option linter.unusedVariables false

def opn (d : Bool) : List UInt8 := if d then [60, 60, 47, 65, 32] else [91]
def cls (d : Bool) : List UInt8 := if d then [62, 62] else [93]
def nest (d : Bool) : Nat → List UInt8
  | 0 => [55]
  | j + 1 => opn d ++ (nest d j ++ cls d)
def nestO (d : Bool) : Nat → Ob
  | 0 => .mk 2 1 7000 ⟨#[]⟩ [] []
  | j + 1 => if d then .mk 6 0 0 ⟨#[]⟩ [] [(⟨#[65]⟩, nestO d j)] else .mk 5 0 0 ⟨#[]⟩ [nestO d j] []
theorem nest_len (d : Bool) : ∀ j, (nest d j).length = 1 + j * (if d then 7 else 2)
  | 0 => by cases d <;> rfl
  | j + 1 => by
    rw [nest, List.length_append, List.length_append, nest_len d j]
    cases d <;> simp [opn, cls] <;> omega
theorem nestO_k (d : Bool) : ∀ j, (nestO d j).k ≠ 0
  | 0 => by simp [nestO, Ob.k]
  | j + 1 => by cases d <;> simp [nestO, Ob.k]
theorem nestO_count (d : Bool) : ∀ j, (nestO d j).count = j + 1
  | 0 => by simp [nestO, count_mk]
  | j + 1 => by
    have := nestO_count d j
    cases d <;> simp [nestO, count_mk, countL_cons, countD_cons, countL, countD, this] <;> omega

theorem next_app (a r : List UInt8) : nextV (a ++ r) (a.length : Int) = if (nextV r 0).1 = 0 then (0, { (nextV r 0).2 with frm := (nextV r 0).2.frm + a.length, to := (nextV r 0).2.to + a.length }) else ((nextV r 0).1, zero) := by
  have hs : spaceV (a ++ r) (a.length : Int) = spc false r + a.length := by
    unfold spaceV
    have h0 : (min (max (a.length : Int) 0) ((a ++ r).length : Int)).toNat = a.length := by rw [List.length_append]; omega
    rw [h0, List.drop_left]; omega
  have ht := tok_shift a r (spc false r)
  have hc : (0 : Int) ≤ (a.length : Int) ∧ (a.length : Int) ≤ ((a ++ r).length : Int) := ⟨by omega, by rw [List.length_append]; omega⟩
  rw [next_zero]
  unfold nextV
  rw [if_pos hc, hs, ht]
  unfold addT
  by_cases h : (tokV r (spc false r)).1 = 0
  · simp [h]
  · simp [h]
theorem next_white (a r : List UInt8) : nextV (a ++ 32 :: r) (a.length : Int) = nextV (a ++ 32 :: r) ((a.length + 1 : Nat) : Int) := by
  have hs : spaceV (a ++ 32 :: r) (a.length : Int) = spaceV (a ++ 32 :: r) ((a.length + 1 : Nat) : Int) := by
    unfold spaceV
    have h0 : (min (max (a.length : Int) 0) ((a ++ 32 :: r).length : Int)).toNat = a.length := by rw [List.length_append]; omega
    have h1 : (min (max ((a.length + 1 : Nat) : Int) 0) ((a ++ 32 :: r).length : Int)).toNat = a.length + 1 := by rw [List.length_append, List.length_cons]; omega
    rw [h0, h1, List.drop_left, ← List.drop_drop, List.drop_left, List.drop_succ_cons, List.drop_zero, spc, if_pos (show white 32 = true from rfl)]; omega
  have hc : (0 : Int) ≤ (a.length : Int) ∧ (a.length : Int) ≤ ((a ++ 32 :: r).length : Int) := ⟨by omega, by rw [List.length_append]; omega⟩
  have hc' : (0 : Int) ≤ ((a.length + 1 : Nat) : Int) ∧ ((a.length + 1 : Nat) : Int) ≤ ((a ++ 32 :: r).length : Int) := ⟨by omega, by rw [List.length_append, List.length_cons]; omega⟩
  unfold nextV
  rw [if_pos hc, if_pos hc', hs]

/-- A token, by its kind, number, text, wholeness, and the place behind. -/
def IsTok (l : List UInt8) (pos : Nat) (kind f : Int) (s : List UInt8) (wh : Bool) (to : Nat) : Prop :=
  (nextV l pos).1 = 0 ∧ (nextV l pos).2.kind = kind ∧ (nextV l pos).2.f = f ∧ (nextV l pos).2.s = s ∧ (nextV l pos).2.whole = wh ∧ (nextV l pos).2.to = to
theorem isTok_app (a r : List UInt8) {kind f : Int} {s : List UInt8} {wh : Bool} {frm to : Nat} (h : nextV r 0 = (0, ⟨kind, f, s, wh, frm, to⟩)) : IsTok (a ++ r) a.length kind f s wh (a.length + to) := by
  unfold IsTok
  rw [next_app, h]
  simp; omega

theorem next_end : nextV [] 0 = (0, ⟨0, 0, [], false, 0, 0⟩) := by rw [next_zero]; rfl
theorem next_arr (r : List UInt8) : nextV (91 :: r) 0 = (0, ⟨4, 0, [], false, 0, 1⟩) := by rw [next_zero]; rfl
theorem next_cls (r : List UInt8) : nextV (93 :: r) 0 = (0, ⟨5, 0, [], false, 0, 1⟩) := by rw [next_zero]; rfl
theorem next_dict (r : List UInt8) : nextV (60 :: 60 :: r) 0 = (0, ⟨6, 0, [], false, 0, 2⟩) := by rw [next_zero]; rfl
theorem next_fin (r : List UInt8) : nextV (62 :: 62 :: r) 0 = (0, ⟨7, 0, [], false, 0, 2⟩) := by rw [next_zero]; rfl
theorem next_name (r : List UInt8) : nextV (47 :: 65 :: 32 :: r) 0 = (0, ⟨2, 0, [65], false, 0, 2⟩) := by rw [next_zero]; rfl
theorem next_name1 : nextV [47] 0 = (0, ⟨2, 0, [], false, 0, 1⟩) := by rw [next_zero]; rfl
theorem next_name2 : nextV [47, 65] 0 = (0, ⟨2, 0, [65], false, 0, 2⟩) := by rw [next_zero]; rfl
theorem next_lt : nextV [60] 0 = (4, zero) := by rw [next_zero]; rfl
theorem next_gt : nextV [62] 0 = (3, zero) := by rw [next_zero]; rfl

/-- What may follow a number. -/
def Suf (r : List UInt8) : Prop := tw reg r = 0 ∧ wholeT (tokOf (nextV r 0)) = false
theorem suf_nil : Suf [] := ⟨rfl, by rw [next_end]; rfl⟩
theorem suf_cls (r : List UInt8) : Suf (93 :: r) := ⟨rfl, by rw [next_cls]; rfl⟩
theorem suf_fin (r : List UInt8) : Suf (62 :: 62 :: r) := ⟨rfl, by rw [next_fin]; rfl⟩
theorem suf_gt : Suf [62] := ⟨rfl, by rw [next_gt]; rfl⟩
theorem next_seven (r : List UInt8) (h : Suf r) : nextV (55 :: r) 0 = (0, ⟨1, 7000, [], true, 0, 1⟩) := by
  have h1 : tw reg (55 :: r) = 1 := by rw [tw, if_pos (show reg 55 = true from rfl), h.1]
  have hs : spc false (55 :: r) = 0 := rfl
  have ht : tokV (55 :: r) 0 = Lx.wordV (55 :: r) 0 := rfl
  have hw : Lx.wordV (55 :: r) 0 = (0, ⟨1, 7000, [], true, 0, 1⟩) := by
    unfold Lx.wordV
    rw [List.drop_zero, h1, List.take_succ_cons, List.take_zero]
    have e1 : Fx.parseE [55] = 0 := by kernel_rfl
    have e2 : Fx.parseV [55] = 7000 := by kernel_rfl
    have e3 : pointIn [55] = false := by kernel_rfl
    have e4 : numB ((55 :: r).headD 0) = true := rfl
    rw [e1, e2, e3, e4]; rfl
  rw [next_zero, hs, ht, hw]; rfl

/-- The object at a place is read; it fails; it is too deep. -/
def Reads (l : List UInt8) (dep pos : Nat) (x : Ob) (to F0 : Nat) : Prop :=
  (nextV l pos).1 = 0 ∧ (nextV l pos).2.kind ≠ 0 ∧ (nextV l pos).2.kind ≠ 5 ∧ (∀ F, F0 ≤ F → objOf F l dep (nextV l pos).2 = (0, x, to)) ∧ ∀ F, (objOf F l dep (nextV l pos).2).1 ≠ 0 ∨ objOf F l dep (nextV l pos).2 = (0, x, to)
def Fails (l : List UInt8) (dep pos : Nat) : Prop :=
  (nextV l pos).1 ≠ 0 ∨ ((nextV l pos).2.kind ≠ 5 ∧ ∀ F, (objOf F l dep (nextV l pos).2).1 ≠ 0)
def Deep (l : List UInt8) (dep pos : Nat) (F0 : Nat) : Prop :=
  (nextV l pos).1 = 0 ∧ (nextV l pos).2.kind ≠ 0 ∧ (nextV l pos).2.kind ≠ 5 ∧ ∀ F, F0 ≤ F → objOf F l dep (nextV l pos).2 = (5, nul, 0)

theorem obj_arr (F : Nat) (l : List UInt8) (dep : Nat) (t : Tok) (h : t.kind = 4) : objOf (F + 1) l dep t = if dep = 64 then (5, nul, 0) else if (upO F l (dep + 1) [] t.to).1 = 0 then (0, .mk 5 0 0 ⟨#[]⟩ (upO F l (dep + 1) [] t.to).2.1 [], (upO F l (dep + 1) [] t.to).2.2) else ((upO F l (dep + 1) [] t.to).1, nul, 0) := by
  rw [objOf]
  simp only [h, if_true, if_false, show ¬ ((4 : Int) = 0) by decide, show ¬ ((4 : Int) = 1) by decide, show ¬ ((4 : Int) = 2) by decide, show ¬ ((4 : Int) = 3) by decide, show ¬ ((4 : Int) = 8) by decide]
theorem obj_dict (F : Nat) (l : List UInt8) (dep : Nat) (t : Tok) (h : t.kind = 6) : objOf (F + 1) l dep t = if dep = 64 then (5, nul, 0) else if (upE F l (dep + 1) [] t.to).1 = 0 then (0, .mk 6 0 0 ⟨#[]⟩ [] (settle (upE F l (dep + 1) [] t.to).2.1), (upE F l (dep + 1) [] t.to).2.2) else ((upE F l (dep + 1) [] t.to).1, nul, 0) := by
  rw [objOf]
  simp only [h, if_true, if_false, show ¬ ((6 : Int) = 0) by decide, show ¬ ((6 : Int) = 1) by decide, show ¬ ((6 : Int) = 2) by decide, show ¬ ((6 : Int) = 3) by decide, show ¬ ((6 : Int) = 8) by decide, show ¬ ((6 : Int) = 4) by decide]
theorem upO_end (F : Nat) {l : List UInt8} (dep : Nat) (acc : List Ob) {p p3 : Nat} {f : Int} {s : List UInt8} {wh : Bool} (h : IsTok l p 5 f s wh p3) : upO (F + 1) l dep acc p = (0, acc, p3) := by
  obtain ⟨c0, c1, -, -, -, c5⟩ := h
  rw [upO, if_neg (by rw [c0]; decide), if_pos c1, c5]
theorem upE_end (F : Nat) {l : List UInt8} (dep : Nat) (acc : List Entr) {p p3 : Nat} {f : Int} {s : List UInt8} {wh : Bool} (h : IsTok l p 7 f s wh p3) : upE (F + 1) l dep acc p = (0, acc, p3) := by
  obtain ⟨c0, c1, -, -, -, c5⟩ := h
  rw [upE, if_neg (by rw [c0]; decide), if_pos c1, c5]
theorem upO_one (F : Nat) {l : List UInt8} {dep p : Nat} (h0 : (nextV l p).1 = 0) (h1 : (nextV l p).2.kind ≠ 0) (h2 : (nextV l p).2.kind ≠ 5) : upO (F + 1) l dep [] p = if (objOf F l dep (nextV l p).2).1 = 0 then upO F l dep [(objOf F l dep (nextV l p).2).2.1] (objOf F l dep (nextV l p).2).2.2 else ((objOf F l dep (nextV l p).2).1, [], 0) := by
  rw [upO, if_neg (by rw [h0]; decide), if_neg h2, if_neg h1, if_neg (by simp), List.nil_append]
theorem ent_one (F : Nat) {l : List UInt8} {dep p p1 : Nat} {f : Int} {s : List UInt8} {wh : Bool} (h : IsTok l p 2 f s wh p1) : entOf (F + 1) l dep (nextV l p).2 = if (nextV l p1).1 ≠ 0 then ((nextV l p1).1, (⟨#[]⟩, nul), 0) else if (objOf F l dep (nextV l p1).2).1 = 0 then (0, (str s, (objOf F l dep (nextV l p1).2).2.1), (objOf F l dep (nextV l p1).2).2.2) else ((objOf F l dep (nextV l p1).2).1, (⟨#[]⟩, nul), 0) := by
  obtain ⟨c0, c1, -, c3, -, c5⟩ := h
  have hn : ¬ (nextV l p).2.kind ≠ 2 := by rw [c1]; decide
  rw [entOf, if_neg hn, c5, c3]
theorem upE_ent (F : Nat) {l : List UInt8} {dep p p1 : Nat} {f : Int} {s : List UInt8} {wh : Bool} (h : IsTok l p 2 f s wh p1) : upE (F + 1) l dep [] p = if (entOf F l dep (nextV l p).2).1 = 0 then upE F l dep [(entOf F l dep (nextV l p).2).2.1] (entOf F l dep (nextV l p).2).2.2 else ((entOf F l dep (nextV l p).2).1, [], 0) := by
  obtain ⟨c0, c1, -, c3, -, c5⟩ := h
  have h0 : ¬ (nextV l p).1 ≠ 0 := by rw [c0]; decide
  have h1 : ¬ (nextV l p).2.kind = 7 := by rw [c1]; decide
  have h2 : ¬ (nextV l p).2.kind = 0 := by rw [c1]; decide
  have h3 : ¬ ([] : List Entr).length = 1024 := by simp
  rw [upE, if_neg h0, if_neg h1, if_neg h2, if_neg h3, List.nil_append]
theorem upE_one (F : Nat) {l : List UInt8} {dep p p1 : Nat} {f : Int} {s : List UInt8} {wh : Bool} (h : IsTok l p 2 f s wh p1) : upE (F + 2) l dep [] p = if (nextV l p1).1 ≠ 0 then ((nextV l p1).1, [], 0) else if (objOf F l dep (nextV l p1).2).1 = 0 then upE (F + 1) l dep [(str s, (objOf F l dep (nextV l p1).2).2.1)] (objOf F l dep (nextV l p1).2).2.2 else ((objOf F l dep (nextV l p1).2).1, [], 0) := by
  rw [upE_ent _ h, ent_one _ h]
  by_cases h1 : (nextV l p1).1 ≠ 0
  · simp only [if_pos h1, if_neg h1]
  · by_cases h2 : (objOf F l dep (nextV l p1).2).1 = 0
    · simp only [if_neg h1, if_pos h2, if_true]
    · simp only [if_neg h1, if_neg h2]

theorem arr_reads {l : List UInt8} {dep pos p1 p2 p3 F0 : Nat} {x : Ob} {f f' : Int} {s s' : List UInt8} {wh wh' : Bool} (hd : dep < 64) (ht : IsTok l pos 4 f s wh p1) (hr : Reads l (dep + 1) p1 x p2 F0) (hc : IsTok l p2 5 f' s' wh' p3) :
    Reads l dep pos (.mk 5 0 0 ⟨#[]⟩ [x] []) p3 (F0 + 4) := by
  obtain ⟨t0, t1, -, -, -, t5⟩ := ht
  obtain ⟨r0, r1, r2, r3, r4⟩ := hr
  have hu : ∀ G, (objOf (G + 1) l (dep + 1) (nextV l p1).2) = (0, x, p2) → objOf (G + 3) l dep (nextV l pos).2 = (0, .mk 5 0 0 ⟨#[]⟩ [x] [], p3) := fun G h => by
    have e : upO (G + 2) l (dep + 1) [] p1 = (0, [x], p3) := by rw [upO_one _ r0 r1 r2, h, if_pos rfl]; exact upO_end G _ _ hc
    rw [obj_arr _ _ _ _ t1, if_neg (by omega), t5, e, if_pos rfl]
  refine ⟨t0, by rw [t1]; decide, by rw [t1]; decide, fun F hF => ?_, fun F => ?_⟩
  · obtain ⟨G, rfl⟩ : ∃ G, F = G + 3 := ⟨F - 3, by omega⟩
    exact hu G (r3 _ (by omega))
  · match F with
    | 0 => exact .inl (by rw [objOf]; decide)
    | 1 => exact .inl (by rw [obj_arr _ _ _ _ t1, if_neg (by omega), upO]; decide)
    | 2 =>
      refine .inl ?_
      have e : (upO 1 l (dep + 1) [] (nextV l pos).2.to).1 ≠ 0 := by
        rw [t5, upO_one 0 r0 r1 r2, objOf, if_neg (by decide)]; decide
      rw [obj_arr _ _ _ _ t1, if_neg (by omega), if_neg e]; exact e
    | G + 3 =>
      rcases r4 (G + 1) with h | h
      · refine .inl ?_
        have e : (upO (G + 2) l (dep + 1) [] (nextV l pos).2.to).1 ≠ 0 := by
          rw [t5, upO_one _ r0 r1 r2, if_neg h]; exact h
        rw [obj_arr _ _ _ _ t1, if_neg (by omega), if_neg e]; exact e
      · exact .inr (hu G h)
theorem arr_deep {l : List UInt8} {dep pos p1 F0 : Nat} {f : Int} {s : List UInt8} {wh : Bool} (ht : IsTok l pos 4 f s wh p1) (hr : dep ≠ 64 → Deep l (dep + 1) p1 F0) : Deep l dep pos (F0 + 4) := by
  obtain ⟨t0, t1, -, -, -, t5⟩ := ht
  refine ⟨t0, by rw [t1]; decide, by rw [t1]; decide, fun F hF => ?_⟩
  obtain ⟨G, rfl⟩ : ∃ G, F = G + 3 := ⟨F - 3, by omega⟩
  rw [obj_arr _ _ _ _ t1, t5]
  by_cases h : dep = 64
  · rw [if_pos h]
  · rw [if_neg h]
    obtain ⟨r0, r1, r2, r3⟩ := hr h
    have hu : upO (G + 2) l (dep + 1) [] p1 = (5, [], 0) := by
      rw [upO_one _ r0 r1 r2, r3 (G + 1) (by omega)]; rfl
    rw [hu]; rfl
theorem arr_fails {l : List UInt8} {dep pos p1 : Nat} {f : Int} {s : List UInt8} {wh : Bool} (ht : IsTok l pos 4 f s wh p1) (hr : ∀ F, (upO F l (dep + 1) [] p1).1 ≠ 0) : Fails l dep pos := by
  obtain ⟨t0, t1, -, -, -, t5⟩ := ht
  refine .inr ⟨by rw [t1]; decide, fun F => ?_⟩
  cases F with
  | zero => rw [objOf]; decide
  | succ F =>
    rw [obj_arr _ _ _ _ t1, t5]
    split
    · decide
    · rw [if_neg (hr F)]; exact hr F
theorem upO_fails {l : List UInt8} {dep p1 : Nat} {acc : List Ob} (h : Fails l dep p1) : ∀ F, (upO F l dep acc p1).1 ≠ 0 := by
  intro F
  cases F with
  | zero => rw [upO]; decide
  | succ F =>
    rw [upO]
    by_cases h0 : (nextV l p1).1 ≠ 0
    · rw [if_pos h0]; exact h0
    · rw [if_neg h0]
      rcases h with h | ⟨h1, h2⟩
      · exact absurd h h0
      · rw [if_neg h1]
        split
        · decide
        · split
          · decide
          · rw [if_neg (h2 F)]; exact h2 F
/-- Behind an object nothing follows that ends a row. -/
def Ends (l : List UInt8) (p : Nat) : Prop := (nextV l p).1 ≠ 0 ∨ (nextV l p).2.kind = 0
theorem upO_short {l : List UInt8} {dep p1 p2 : Nat} {x : Ob} {F0 : Nat} (h : Reads l dep p1 x p2 F0) (he : Ends l p2) : ∀ F, (upO F l dep [] p1).1 ≠ 0 := by
  intro F
  obtain ⟨r0, r1, r2, -, hn⟩ := h
  cases F with
  | zero => rw [upO]; decide
  | succ F =>
    rw [upO_one _ r0 r1 r2]
    rcases hn F with h | h
    · rw [if_neg h]; exact h
    · rw [h, if_pos rfl]
      cases F with
      | zero => rw [upO]; decide
      | succ F =>
        rw [upO]
        rcases he with he | he
        · rw [if_pos he]; exact he
        · by_cases h0 : (nextV l p2).1 ≠ 0
          · rw [if_pos h0]; exact h0
          · rw [if_neg h0, if_neg (by rw [he]; decide), if_pos he]; decide

theorem settle_one (key : ByteArray) (x : Ob) (h : x.k ≠ 0) : settle [(key, x)] = [(key, x)] := by
  show setD [] key x = _
  unfold setD
  rw [show (x.k == 0) = false by simpa using h, setGo]; rfl
theorem dict_reads {l : List UInt8} {dep pos p0 p1 p2 p3 F0 : Nat} {x : Ob} {f f' f'' : Int} {s s' s'' : List UInt8} {wh wh' wh'' : Bool} (hd : dep < 64) (hx : x.k ≠ 0) (ht : IsTok l pos 6 f s wh p0) (hn : IsTok l p0 2 f'' s'' wh'' p1) (hr : Reads l (dep + 1) p1 x p2 F0) (hc : IsTok l p2 7 f' s' wh' p3) :
    Reads l dep pos (.mk 6 0 0 ⟨#[]⟩ [] [(str s'', x)]) p3 (F0 + 4) := by
  obtain ⟨t0, t1, -, -, -, t5⟩ := ht
  obtain ⟨r0, r1, r2, r3, r4⟩ := hr
  have hu : ∀ G, (objOf G l (dep + 1) (nextV l p1).2) = (0, x, p2) → objOf (G + 3) l dep (nextV l pos).2 = (0, .mk 6 0 0 ⟨#[]⟩ [] [(str s'', x)], p3) := fun G h => by
    have e : upE (G + 2) l (dep + 1) [] p0 = (0, [(str s'', x)], p3) := by rw [upE_one _ hn, if_neg (by rw [r0]; decide), h, if_pos rfl]; exact upE_end G _ _ hc
    rw [obj_dict _ _ _ _ t1, if_neg (by omega), t5, e, if_pos rfl, settle_one _ _ hx]
  refine ⟨t0, by rw [t1]; decide, by rw [t1]; decide, fun F hF => ?_, fun F => ?_⟩
  · obtain ⟨G, rfl⟩ : ∃ G, F = G + 3 := ⟨F - 3, by omega⟩
    exact hu G (r3 _ (by omega))
  · match F with
    | 0 => exact .inl (by rw [objOf]; decide)
    | 1 => exact .inl (by rw [obj_dict _ _ _ _ t1, if_neg (by omega), upE]; decide)
    | 2 =>
      refine .inl ?_
      have e : (upE 1 l (dep + 1) [] (nextV l pos).2.to).1 ≠ 0 := by
        rw [t5, upE_ent 0 hn, entOf, if_neg (by decide)]; decide
      rw [obj_dict _ _ _ _ t1, if_neg (by omega), if_neg e]; exact e
    | G + 3 =>
      rcases r4 G with h | h
      · refine .inl ?_
        have e : (upE (G + 2) l (dep + 1) [] (nextV l pos).2.to).1 ≠ 0 := by
          rw [t5, upE_one _ hn, if_neg (by rw [r0]; decide), if_neg h]; exact h
        rw [obj_dict _ _ _ _ t1, if_neg (by omega), if_neg e]; exact e
      · exact .inr (hu G h)
theorem dict_deep {l : List UInt8} {dep pos p0 p1 F0 : Nat} {f f'' : Int} {s s'' : List UInt8} {wh wh'' : Bool} (ht : IsTok l pos 6 f s wh p0) (hn : IsTok l p0 2 f'' s'' wh'' p1) (hr : dep ≠ 64 → Deep l (dep + 1) p1 F0) : Deep l dep pos (F0 + 4) := by
  obtain ⟨t0, t1, -, -, -, t5⟩ := ht
  refine ⟨t0, by rw [t1]; decide, by rw [t1]; decide, fun F hF => ?_⟩
  obtain ⟨G, rfl⟩ : ∃ G, F = G + 3 := ⟨F - 3, by omega⟩
  rw [obj_dict _ _ _ _ t1, t5]
  by_cases h : dep = 64
  · rw [if_pos h]
  · rw [if_neg h]
    obtain ⟨r0, r1, r2, r3⟩ := hr h
    have hu : upE (G + 2) l (dep + 1) [] p0 = (5, [], 0) := by
      rw [upE_one _ hn, if_neg (by rw [r0]; decide), r3 G (by omega)]; rfl
    rw [hu]; rfl
theorem dict_fails {l : List UInt8} {dep pos p1 : Nat} {f : Int} {s : List UInt8} {wh : Bool} (ht : IsTok l pos 6 f s wh p1) (hr : ∀ F, (upE F l (dep + 1) [] p1).1 ≠ 0) : Fails l dep pos := by
  obtain ⟨t0, t1, -, -, -, t5⟩ := ht
  refine .inr ⟨by rw [t1]; decide, fun F => ?_⟩
  cases F with
  | zero => rw [objOf]; decide
  | succ F =>
    rw [obj_dict _ _ _ _ t1, t5]
    split
    · decide
    · rw [if_neg (hr F)]; exact hr F
theorem upE_ends {l : List UInt8} {dep p1 : Nat} {acc : List Entr} (h : Ends l p1) : ∀ F, (upE F l dep acc p1).1 ≠ 0 := by
  intro F
  cases F with
  | zero => rw [upE]; decide
  | succ F =>
    rw [upE]
    rcases h with he | he
    · rw [if_pos he]; exact he
    · by_cases h0 : (nextV l p1).1 ≠ 0
      · rw [if_pos h0]; exact h0
      · rw [if_neg h0, if_neg (by rw [he]; decide), if_pos he]; decide
theorem upE_fails {l : List UInt8} {dep p0 p1 : Nat} {f : Int} {s : List UInt8} {wh : Bool} (hn : IsTok l p0 2 f s wh p1) (h : Fails l dep p1) : ∀ F, (upE F l dep [] p0).1 ≠ 0 := by
  intro F
  match F with
  | 0 => rw [upE]; decide
  | 1 =>
    rw [upE_ent 0 hn, entOf, if_neg (by decide)]; decide
  | F + 2 =>
    rw [upE_one _ hn]
    by_cases h0 : (nextV l p1).1 ≠ 0
    · rw [if_pos h0]; exact h0
    · rw [if_neg h0]
      rcases h with h | ⟨h1, h2⟩
      · exact absurd h h0
      · rw [if_neg (h2 F)]; exact h2 F
theorem upE_short {l : List UInt8} {dep p0 p1 p2 : Nat} {x : Ob} {F0 : Nat} {f : Int} {s : List UInt8} {wh : Bool} (hn : IsTok l p0 2 f s wh p1) (h : Reads l dep p1 x p2 F0) (he : Ends l p2) : ∀ F, (upE F l dep [] p0).1 ≠ 0 := by
  intro F
  obtain ⟨r0, r1, r2, -, hn'⟩ := h
  match F with
  | 0 => rw [upE]; decide
  | 1 =>
    rw [upE_ent 0 hn, entOf, if_neg (by decide)]; decide
  | F + 2 =>
    rw [upE_one _ hn, if_neg (by rw [r0]; decide)]
    rcases hn' F with h | h
    · rw [if_neg h]; exact h
    · rw [h, if_pos rfl]; exact upE_ends he _

theorem ends_nil (a : List UInt8) : Ends (a ++ []) a.length := .inr (by have := isTok_app a [] next_end; exact this.2.1)
theorem fails_nil (a : List UInt8) (dep : Nat) : Fails (a ++ []) dep a.length := by
  have h := isTok_app a [] next_end
  refine .inr ⟨by rw [h.2.1]; decide, fun F => ?_⟩
  cases F with
  | zero => rw [objOf]; decide
  | succ F => rw [objOf, if_pos h.2.1]; decide
theorem err_app (a r : List UInt8) (e : Int) (h : nextV r 0 = (e, zero)) (he : e ≠ 0) : (nextV (a ++ r) a.length).1 ≠ 0 := by
  rw [next_app, h]; simp only []; rw [if_neg he]; exact he
theorem next_to {l : List UInt8} {p q : Nat} (h : nextV l p = nextV l q) {dep to F0 : Nat} {x : Ob} : (Reads l dep q x to F0 → Reads l dep p x to F0) ∧ (Fails l dep q → Fails l dep p) ∧ (Deep l dep q F0 → Deep l dep p F0) := by
  unfold Reads Fails Deep; rw [h]; exact ⟨id, id, id⟩

theorem nest_reads (d : Bool) : ∀ (j : Nat) (pre suf : List UInt8) (dep : Nat), dep + j ≤ 64 → Suf suf → Reads (pre ++ (nest d j ++ suf)) dep pre.length (nestO d j) (pre.length + (nest d j).length) (4 * j + 1)
  | 0, pre, suf, dep, _, hs => by
    have h := isTok_app pre (55 :: suf) (next_seven suf hs)
    have hF : ∀ F, objOf (F + 1) (pre ++ (55 :: suf)) dep (nextV (pre ++ (55 :: suf)) pre.length).2 = (0, nestO d 0, pre.length + 1) := fun F => by
      obtain ⟨h0, h1, h2, h3, h4, h5⟩ := h
      have hn : wholeT (tokOf (nextV (pre ++ (55 :: suf)) ((pre.length + 1 : Nat) : Int))) = false := by
        have h6 : nextV (pre ++ (55 :: suf)) ((pre.length + 1 : Nat) : Int) = nextV ((pre ++ [55]) ++ suf) ((pre ++ [55]).length : Int) := by simp
        have h7 := hs.2
        rw [h6, next_app]
        unfold tokOf at h7 ⊢
        by_cases hz : (nextV suf 0).1 = 0
        · rw [if_pos hz] at h7
          rw [if_pos hz]; exact h7
        · rw [if_neg hz] at h7
          rw [if_neg hz]
          simp only []
          rw [if_neg hz]; exact h7
      have hnum : numberV (pre ++ (55 :: suf)) (nextV (pre ++ (55 :: suf)) pre.length).2 = (nestO d 0, pre.length + 1) := by
        unfold numberV
        rw [h5, hn]
        simp only [Bool.false_eq_true, if_false, ite_self]
        unfold numV
        rw [h4, h2]; rfl
      rw [objOf, if_neg (by rw [h1]; decide), if_pos h1, hnum]
    refine ⟨h.1, by rw [show pre ++ (nest d 0 ++ suf) = pre ++ (55 :: suf) from rfl, h.2.1]; decide, by rw [show pre ++ (nest d 0 ++ suf) = pre ++ (55 :: suf) from rfl, h.2.1]; decide, fun F hF' => ?_, fun F => ?_⟩
    · obtain ⟨G, rfl⟩ : ∃ G, F = G + 1 := ⟨F - 1, by omega⟩
      exact hF G
    · cases F with
      | zero => exact .inl (by rw [objOf]; decide)
      | succ F => exact .inr (hF F)
  | j + 1, pre, suf, dep, hd, hs => by
    cases d with
    | false =>
      have e0 : pre ++ (nest false (j + 1) ++ suf) = pre ++ (91 :: (nest false j ++ (93 :: suf))) := by simp [nest, opn, cls]
      have e1 : pre ++ (91 :: (nest false j ++ (93 :: suf))) = (pre ++ [91]) ++ (nest false j ++ (93 :: suf)) := by simp
      have e2 : (pre ++ [91]) ++ (nest false j ++ (93 :: suf)) = (pre ++ [91] ++ nest false j) ++ (93 :: suf) := by simp
      have h1 := isTok_app pre (91 :: (nest false j ++ (93 :: suf))) (next_arr _)
      have h2 := nest_reads false j (pre ++ [91]) (93 :: suf) (dep + 1) (by omega) (suf_cls suf)
      have h3 := isTok_app (pre ++ [91] ++ nest false j) (93 :: suf) (next_cls suf)
      rw [← e2, ← e1, ← e0] at h3
      rw [← e1, ← e0] at h2
      rw [← e0] at h1
      simp only [List.length_append, List.length_cons, List.length_nil, Nat.zero_add] at h1 h2 h3
      have hd' : dep < 64 := by omega
      have := arr_reads hd' h1 h2 h3
      rw [show pre.length + (nest false (j + 1)).length = pre.length + 1 + (nest false j).length + 1 by rw [nest_len, nest_len]; simp; omega]
      exact this
    | true =>
      have e0 : pre ++ (nest true (j + 1) ++ suf) = pre ++ (60 :: 60 :: (47 :: 65 :: 32 :: (nest true j ++ (62 :: 62 :: suf)))) := by simp [nest, opn, cls]
      have e1 : pre ++ (60 :: 60 :: (47 :: 65 :: 32 :: (nest true j ++ (62 :: 62 :: suf)))) = (pre ++ [60, 60]) ++ (47 :: 65 :: 32 :: (nest true j ++ (62 :: 62 :: suf))) := by simp
      have e2 : (pre ++ [60, 60]) ++ (47 :: 65 :: 32 :: (nest true j ++ (62 :: 62 :: suf))) = (pre ++ [60, 60, 47, 65]) ++ (32 :: (nest true j ++ (62 :: 62 :: suf))) := by simp
      have e3 : (pre ++ [60, 60, 47, 65]) ++ (32 :: (nest true j ++ (62 :: 62 :: suf))) = (pre ++ [60, 60, 47, 65, 32]) ++ (nest true j ++ (62 :: 62 :: suf)) := by simp
      have e4 : (pre ++ [60, 60, 47, 65, 32]) ++ (nest true j ++ (62 :: 62 :: suf)) = (pre ++ [60, 60, 47, 65, 32] ++ nest true j) ++ (62 :: 62 :: suf) := by simp
      have h1 := isTok_app pre (60 :: 60 :: (47 :: 65 :: 32 :: (nest true j ++ (62 :: 62 :: suf)))) (next_dict _)
      have h2 := isTok_app (pre ++ [60, 60]) (47 :: 65 :: 32 :: (nest true j ++ (62 :: 62 :: suf))) (next_name _)
      have h3 := next_white (pre ++ [60, 60, 47, 65]) (nest true j ++ (62 :: 62 :: suf))
      have h4 := nest_reads true j (pre ++ [60, 60, 47, 65, 32]) (62 :: 62 :: suf) (dep + 1) (by omega) (suf_fin suf)
      have h5 := isTok_app (pre ++ [60, 60, 47, 65, 32] ++ nest true j) (62 :: 62 :: suf) (next_fin suf)
      rw [← e4, ← e3, ← e2, ← e1, ← e0] at h5
      rw [← e3, ← e2, ← e1, ← e0] at h4
      rw [← e2, ← e1, ← e0] at h3
      rw [← e1, ← e0] at h2
      rw [← e0] at h1
      simp only [List.length_append, List.length_cons, List.length_nil, Nat.zero_add, Nat.reduceAdd] at h1 h2 h3 h4 h5
      have hd' : dep < 64 := by omega
      have := dict_reads hd' (nestO_k true j) h1 h2 ((next_to h3).1 h4) h5
      rw [show pre.length + (nest true (j + 1)).length = pre.length + 5 + (nest true j).length + 2 by rw [nest_len, nest_len]; simp; omega]
      exact this

theorem nest_deep (d : Bool) : ∀ (j : Nat) (pre suf : List UInt8) (dep : Nat), dep ≤ 64 → 64 < dep + j → Deep (pre ++ (nest d j ++ suf)) dep pre.length (4 * j + 1)
  | 0, pre, suf, dep, h1, h2 => absurd h2 (by omega)
  | j + 1, pre, suf, dep, h1, h2 => by
    cases d with
    | false =>
      have e0 : pre ++ (nest false (j + 1) ++ suf) = pre ++ (91 :: (nest false j ++ (93 :: suf))) := by simp [nest, opn, cls]
      have e1 : pre ++ (91 :: (nest false j ++ (93 :: suf))) = (pre ++ [91]) ++ (nest false j ++ (93 :: suf)) := by simp
      have t1 := isTok_app pre (91 :: (nest false j ++ (93 :: suf))) (next_arr _)
      rw [← e0] at t1
      have := arr_deep (dep := dep) t1 (F0 := 4 * j + 1) (fun hne => by
        have := nest_deep false j (pre ++ [91]) (93 :: suf) (dep + 1) (by omega) (by omega)
        rw [← e1, ← e0, List.length_append] at this; exact this)
      exact this
    | true =>
      have e0 : pre ++ (nest true (j + 1) ++ suf) = pre ++ (60 :: 60 :: (47 :: 65 :: 32 :: (nest true j ++ (62 :: 62 :: suf)))) := by simp [nest, opn, cls]
      have e1 : pre ++ (60 :: 60 :: (47 :: 65 :: 32 :: (nest true j ++ (62 :: 62 :: suf)))) = (pre ++ [60, 60]) ++ (47 :: 65 :: 32 :: (nest true j ++ (62 :: 62 :: suf))) := by simp
      have e2 : (pre ++ [60, 60]) ++ (47 :: 65 :: 32 :: (nest true j ++ (62 :: 62 :: suf))) = (pre ++ [60, 60, 47, 65]) ++ (32 :: (nest true j ++ (62 :: 62 :: suf))) := by simp
      have e3 : (pre ++ [60, 60, 47, 65]) ++ (32 :: (nest true j ++ (62 :: 62 :: suf))) = (pre ++ [60, 60, 47, 65, 32]) ++ (nest true j ++ (62 :: 62 :: suf)) := by simp
      have t1 := isTok_app pre (60 :: 60 :: (47 :: 65 :: 32 :: (nest true j ++ (62 :: 62 :: suf)))) (next_dict _)
      have t2 := isTok_app (pre ++ [60, 60]) (47 :: 65 :: 32 :: (nest true j ++ (62 :: 62 :: suf))) (next_name _)
      have t3 := next_white (pre ++ [60, 60, 47, 65]) (nest true j ++ (62 :: 62 :: suf))
      rw [← e2, ← e1, ← e0] at t3
      rw [← e1, ← e0] at t2
      rw [← e0] at t1
      simp only [List.length_append, List.length_cons, List.length_nil, Nat.zero_add, Nat.reduceAdd] at t1 t2 t3
      have := dict_deep (dep := dep) t1 t2 (F0 := 4 * j + 1) (fun hne => by
        have h4 := nest_deep true j (pre ++ [60, 60, 47, 65, 32]) (62 :: 62 :: suf) (dep + 1) (by omega) (by omega)
        rw [← e3, ← e2, ← e1, ← e0] at h4
        simp only [List.length_append, List.length_cons, List.length_nil, Nat.zero_add, Nat.reduceAdd] at h4
        exact (next_to (to := 0) (x := nul) t3).2.2 h4)
      exact this

theorem ends_gt (a : List UInt8) : Ends (a ++ [62]) a.length := .inl (err_app a [62] 3 next_gt (by decide))
theorem nest_cut (d : Bool) : ∀ (j : Nat) (pre : List UInt8) (dep c : Nat), dep + j ≤ 64 → c < (nest d j).length → Fails (pre ++ (nest d j).take c) dep pre.length
  | 0, pre, dep, c, _, hc => by
    obtain rfl : c = 0 := by simpa [nest] using hc
    exact fails_nil pre dep
  | j + 1, pre, dep, 0, _, _ => fails_nil pre dep
  | j + 1, pre, dep, c + 1, hd, hc => by
    cases d with
    | false =>
      have hl : (nest false (j + 1)).length = (nest false j).length + 2 := by rw [nest_len, nest_len]; simp; omega
      have e0 : (nest false (j + 1)).take (c + 1) = 91 :: (nest false j ++ [93]).take c := by simp [nest, opn, cls]
      have t1 := isTok_app pre (91 :: (nest false j ++ [93]).take c) (next_arr _)
      have e1 : pre ++ (91 :: (nest false j ++ [93]).take c) = (pre ++ [91]) ++ (nest false j ++ [93]).take c := by simp
      rw [e0]
      refine arr_fails t1 ?_
      rw [e1]
      by_cases h : c < (nest false j).length
      · have ih := nest_cut false j (pre ++ [91]) (dep + 1) c (by omega) h
        rw [List.take_append_of_le_length (by omega)]
        rw [List.length_append] at ih
        exact upO_fails ih
      · obtain rfl : c = (nest false j).length := by omega
        rw [List.take_left]
        have hr := nest_reads false j (pre ++ [91]) [] (dep + 1) (by omega) suf_nil
        have he := ends_nil (pre ++ [91] ++ nest false j)
        rw [List.append_nil] at hr he
        rw [List.length_append, List.length_append] at he
        rw [List.length_append] at hr
        exact upO_short hr he
    | true =>
      have hl : (nest true (j + 1)).length = (nest true j).length + 7 := by rw [nest_len, nest_len]; simp; omega
      match c, hc with
      | 0, _ => exact .inl (err_app pre [60] 4 next_lt (by decide))
      | 1, _ =>
        have t1 := isTok_app pre [60, 60] (next_dict _)
        have he := ends_nil (pre ++ [60, 60])
        rw [List.append_nil, List.length_append] at he
        exact dict_fails t1 (upE_ends he)
      | 2, _ =>
        have t1 := isTok_app pre [60, 60, 47] (next_dict _)
        have t2 := isTok_app (pre ++ [60, 60]) [47] next_name1
        have hf := fails_nil (pre ++ [60, 60, 47]) (dep + 1)
        rw [show pre ++ [60, 60] ++ [47] = pre ++ [60, 60, 47] by simp] at t2
        rw [List.append_nil] at hf
        simp only [List.length_append, List.length_cons, List.length_nil, Nat.zero_add, Nat.reduceAdd] at t1 t2 hf
        exact dict_fails t1 (upE_fails t2 hf)
      | 3, _ =>
        have t1 := isTok_app pre [60, 60, 47, 65] (next_dict _)
        have t2 := isTok_app (pre ++ [60, 60]) [47, 65] next_name2
        have hf := fails_nil (pre ++ [60, 60, 47, 65]) (dep + 1)
        rw [show pre ++ [60, 60] ++ [47, 65] = pre ++ [60, 60, 47, 65] by simp] at t2
        rw [List.append_nil] at hf
        simp only [List.length_append, List.length_cons, List.length_nil, Nat.zero_add, Nat.reduceAdd] at t1 t2 hf
        exact dict_fails t1 (upE_fails t2 hf)
      | c + 4, hc =>
        have e0 : pre ++ (nest true (j + 1)).take (c + 4 + 1) = pre ++ (60 :: 60 :: (47 :: 65 :: 32 :: (nest true j ++ [62, 62]).take c)) := by simp [nest, opn, cls]
        obtain ⟨X, hX⟩ : ∃ X, X = (nest true j ++ [62, 62]).take c := ⟨_, rfl⟩
        rw [← hX] at e0
        have e1 : pre ++ (60 :: 60 :: (47 :: 65 :: 32 :: X)) = (pre ++ [60, 60]) ++ (47 :: 65 :: 32 :: X) := by simp
        have e2 : (pre ++ [60, 60]) ++ (47 :: 65 :: 32 :: X) = (pre ++ [60, 60, 47, 65]) ++ (32 :: X) := by simp
        have e3 : (pre ++ [60, 60, 47, 65]) ++ (32 :: X) = (pre ++ [60, 60, 47, 65, 32]) ++ X := by simp
        have t1 := isTok_app pre (60 :: 60 :: (47 :: 65 :: 32 :: X)) (next_dict _)
        have t2 := isTok_app (pre ++ [60, 60]) (47 :: 65 :: 32 :: X) (next_name _)
        have t3 := next_white (pre ++ [60, 60, 47, 65]) X
        rw [← e2, ← e1] at t3
        rw [← e1] at t2
        rw [e0]
        simp only [List.length_append, List.length_cons, List.length_nil, Nat.zero_add, Nat.reduceAdd] at t1 t2 t3
        refine dict_fails t1 ?_
        by_cases h : c < (nest true j).length
        · have ih := nest_cut true j (pre ++ [60, 60, 47, 65, 32]) (dep + 1) c (by omega) h
          have hX' : X = (nest true j).take c := by rw [hX, List.take_append_of_le_length (by omega)]
          rw [← hX', ← e3, ← e2, ← e1] at ih
          simp only [List.length_append, List.length_cons, List.length_nil, Nat.zero_add, Nat.reduceAdd] at ih
          exact upE_fails t2 ((next_to (to := 0) (x := nul) (F0 := 0) t3).2.1 ih)
        · have hX' : X = nest true j ++ [62, 62].take (c - (nest true j).length) := by
            rw [hX, List.take_append, List.take_of_length_le (by omega)]
          have hc' : c - (nest true j).length = 0 ∨ c - (nest true j).length = 1 := by omega
          have hr : ∀ suf, X = nest true j ++ suf → Suf suf → Reads (pre ++ (60 :: 60 :: (47 :: 65 :: 32 :: X))) (dep + 1) (pre.length + 2 + 2) (nestO true j) (pre.length + 5 + (nest true j).length) (4 * j + 1) := fun suf hs hsuf => by
            have hr := nest_reads true j (pre ++ [60, 60, 47, 65, 32]) suf (dep + 1) (by omega) hsuf
            rw [← hs, ← e3, ← e2, ← e1] at hr
            simp only [List.length_append, List.length_cons, List.length_nil, Nat.zero_add, Nat.reduceAdd] at hr
            exact (next_to t3).1 hr
          have he : ∀ suf, X = nest true j ++ suf → Ends ((pre ++ [60, 60, 47, 65, 32] ++ nest true j) ++ suf) (pre ++ [60, 60, 47, 65, 32] ++ nest true j).length → Ends (pre ++ (60 :: 60 :: (47 :: 65 :: 32 :: X))) (pre.length + 5 + (nest true j).length) := fun suf hs h => by
            rw [List.append_assoc, ← hs, ← e3, ← e2, ← e1] at h
            simp only [List.length_append, List.length_cons, List.length_nil, Nat.zero_add, Nat.reduceAdd] at h
            exact h
          rcases hc' with h0 | h0
          · rw [h0] at hX'
            exact upE_short t2 (hr _ hX' suf_nil) (he _ hX' (ends_nil _))
          · rw [h0] at hX'
            exact upE_short t2 (hr _ hX' suf_gt) (he _ hX' (ends_gt _))

theorem obj_end (F : Nat) (l : List UInt8) (dep : Nat) (t : Tok) (h : t.kind = 0) : (objOf F l dep t).1 ≠ 0 := by
  cases F with
  | zero => rw [objOf]; decide
  | succ F => rw [objOf, if_pos h]; decide
/-- What Parse answers of a nest, of one that is too deep, and of one that is cut off. -/
theorem parse_nest (d : Bool) (k : Nat) (h : k ≤ 64) : Cx.parse (nest d k) 0 = (0, nestO d k, (nest d k).length) := by
  obtain ⟨h0, -, -, h3, -⟩ := nest_reads d k [] [] 0 (by omega) suf_nil
  simp only [List.nil_append, List.append_nil, List.length_nil, Nat.zero_add] at h0 h3
  unfold Cx.parse
  rw [if_neg (by rw [show ((0 : Int)) = ((0 : Nat) : Int) from rfl, h0]; decide)]
  exact h3 _ (by rw [nest_len]; split <;> omega)
theorem parse_deep (d : Bool) (k : Nat) (h : 64 < k) : Cx.parse (nest d k) 0 = (5, nul, 0) := by
  obtain ⟨h0, -, -, h3⟩ := nest_deep d k [] [] 0 (by omega) (by omega)
  simp only [List.nil_append, List.append_nil, List.length_nil, Nat.zero_add] at h0 h3
  unfold Cx.parse
  rw [if_neg (by rw [show ((0 : Int)) = ((0 : Nat) : Int) from rfl, h0]; decide)]
  exact h3 _ (by rw [nest_len]; split <;> omega)
theorem parse_cut (d : Bool) (k c : Nat) (h : k ≤ 64) (hc : c < (nest d k).length) : (Cx.parse ((nest d k).take c) 0).1 ≠ 0 := by
  have hf := nest_cut d k [] 0 c (by omega) hc
  simp only [List.nil_append, List.length_nil] at hf
  unfold Cx.parse
  by_cases h0 : (nextV ((nest d k).take c) 0).1 ≠ 0
  · rw [if_pos h0]; exact h0
  · rw [if_neg h0]
    rcases hf with hf | hf
    · exact absurd hf h0
    · exact hf.2 _

end Go.Proofs.Ytakbhdhlcnpejaa.Cx

namespace Go.Proofs.Ytakbhdhlcnpejaa.Rx
open Lx
set_option linter.unusedSimpArgs false
set_option linter.unusedVariables false

/-- The next token, which must be there. -/
def tokX (l : List UInt8) (a : Int) : Int × Tok :=
  if (nextV l a).1 = 0 then (if (nextV l a).2.kind = 0 then (4, zero) else (0, (nextV l a).2)) else ((nextV l a).1, zero)
def isWh (t : Tok) : Bool := t.kind == 1 && t.whole && decide (0 ≤ t.f)
def isWd (t : Tok) (s : List UInt8) : Bool := t.kind == 8 && t.s == s
/-- A whole number. -/
def wholeX (l : List UInt8) (a : Int) : Int × Int × Nat :=
  if (tokX l a).1 = 0 then (if isWh (tokX l a).2 then (0, (tokX l a).2.f.tdiv 1000, (tokX l a).2.to) else (3, 0, 0)) else ((tokX l a).1, 0, 0)
def zeroE : Xent := ⟨0, 0, 0, false⟩
/-- What a section tells of one object. -/
def entT (t : Int × Tok) (n off gen : Int) : Int × Xent × Nat :=
  if t.1 = 0 then (if isWd t.2 [110] || isWd t.2 [102] then (0, ⟨n, off, gen, t.2.s == [110]⟩, t.2.to) else (3, zeroE, 0)) else (t.1, zeroE, 0)
def entX (l : List UInt8) (a : Int) (n : Int) : Int × Xent × Nat :=
  if (wholeX l a).1 = 0 then
    (if (wholeX l (wholeX l a).2.2).1 = 0 then entT (tokX l (wholeX l (wholeX l a).2.2).2.2) n (wholeX l a).2.1 (wholeX l (wholeX l a).2.2).2.1
     else ((wholeX l (wholeX l a).2.2).1, zeroE, 0))
  else ((wholeX l a).1, zeroE, 0)
/-- So many entries. -/
def secG (l : List UInt8) : Nat → Int → Nat → List Xent → Int × List Xent × Nat
  | 0, _, a, acc => (0, acc, a)
  | n + 1, first, a, acc => if (entX l a first).1 = 0 then secG l n (first + 1) (entX l a first).2.2 (acc ++ [(entX l a first).2.1]) else ((entX l a first).1, [], 0)
def secX (l : List UInt8) (first : Int) (a : Nat) : Int × List Xent × Nat :=
  if (wholeX l a).1 = 0 then (if 0 < (wholeX l a).2.1 ∧ 4096 < first + (wholeX l a).2.1 then (6, [], 0) else secG l (wholeX l a).2.1.toNat first (wholeX l a).2.2 [])
  else ((wholeX l a).1, [], 0)
def trailT : List UInt8 := [116, 114, 97, 105, 108, 101, 114]
def entsG (l : List UInt8) : Nat → Nat → List Xent → Int × List Xent × Nat
  | 0, _, _ => (99, [], 0)
  | F + 1, a, acc =>
    if (tokX l a).1 = 0 then
      (if isWd (tokX l a).2 trailT then (0, acc, (tokX l a).2.to)
       else if isWh (tokX l a).2 then
         (if (secX l ((tokX l a).2.f.tdiv 1000) (tokX l a).2.to).1 = 0 then entsG l F (secX l ((tokX l a).2.f.tdiv 1000) (tokX l a).2.to).2.2 (acc ++ (secX l ((tokX l a).2.f.tdiv 1000) (tokX l a).2.to).2.1)
          else ((secX l ((tokX l a).2.f.tdiv 1000) (tokX l a).2.to).1, [], 0))
       else (3, [], 0))
    else ((tokX l a).1, [], 0)
def entsX (l : List UInt8) (a : Int) : Int × List Xent × Nat :=
  if (tokX l a).1 = 0 then (if isWd (tokX l a).2 [120, 114, 101, 102] then entsG l (l.length + 2) (tokX l a).2.to [] else (3, [], 0)) else ((tokX l a).1, [], 0)
/-- Parse. -/
def parseX (l : List UInt8) (a : Int) : Int × List Xent × Cx.Ob :=
  if (entsX l a).1 = 0 then
    (if (Cx.parse l (entsX l a).2.2).1 = 0 then (if (Cx.parse l (entsX l a).2.2).2.1.k = 6 then (0, (entsX l a).2.1, (Cx.parse l (entsX l a).2.2).2.1) else (3, [], Cx.nul))
     else ((Cx.parse l (entsX l a).2.2).1, [], Cx.nul))
  else ((entsX l a).1, [], Cx.nul)
def startT : List UInt8 := [115, 116, 97, 114, 116, 120, 114, 101, 102]
/-- Start. -/
def startX (l : List UInt8) : Int × Int :=
  if Lib.lastIndex l startT < 0 then (3, 0)
  else if (wholeX l (Lib.lastIndex l startT + 9)).1 = 4 then (3, 0)
  else if (wholeX l (Lib.lastIndex l startT + 9)).1 = 0 then (if (l.length : Int) < (wholeX l (Lib.lastIndex l startT + 9)).2.1 then (2, 0) else (0, (wholeX l (Lib.lastIndex l startT + 9)).2.1))
  else ((wholeX l (Lib.lastIndex l startT + 9)).1, 0)

theorem tokX_ok {l : List UInt8} {a : Int} (h : (tokX l a).1 = 0) : (nextV l a).1 = 0 ∧ (tokX l a).2 = (nextV l a).2 ∧ (nextV l a).2.kind ≠ 0 ∧ 0 ≤ a ∧ a < ((tokX l a).2.to : Int) ∧ (tokX l a).2.to ≤ l.length := by
  unfold tokX at h ⊢
  by_cases h1 : (nextV l a).1 = 0
  · rw [if_pos h1] at h ⊢
    by_cases h2 : (nextV l a).2.kind = 0
    · rw [if_pos h2] at h; exact absurd h (by decide)
    · rw [if_neg h2] at h ⊢
      obtain ⟨b1, b2, b3, b4, b5, b6, b7⟩ := next_bd l a h1
      refine ⟨h1, rfl, h2, b1, ?_, b6⟩
      rcases b7 with ⟨k, _⟩ | ⟨_, _, k⟩
      · exact absurd k h2
      · show a < ((nextV l a).2.to : Int); omega
  · rw [if_neg h1] at h; exact absurd h h1
theorem isWh_iff {t : Tok} : isWh t = true ↔ t.kind = 1 ∧ t.whole = true ∧ 0 ≤ t.f := by
  unfold isWh; simp [and_assoc]
theorem wholeX_ok {l : List UInt8} {a : Int} (h : (wholeX l a).1 = 0) : 0 ≤ a ∧ a < ((wholeX l a).2.2 : Int) ∧ (wholeX l a).2.2 ≤ l.length ∧ 0 ≤ (wholeX l a).2.1 ∧ (wholeX l a).2.1 ≤ 2147483 := by
  unfold wholeX at h ⊢
  by_cases h1 : (tokX l a).1 = 0
  · rw [if_pos h1] at h ⊢
    by_cases h2 : isWh (tokX l a).2 = true
    · rw [if_pos h2]
      obtain ⟨t1, t2, t3, t4, t5, t6⟩ := tokX_ok h1
      have hf := (isWh_iff.1 h2).2.2
      have hb := (next_len l a).2.1
      rw [t2] at hf t5 t6 ⊢
      refine ⟨t4, t5, t6, ?_, ?_⟩
      · show 0 ≤ (nextV l a).2.f.tdiv 1000
        rw [Int.tdiv_eq_ediv_of_nonneg hf]; omega
      · show (nextV l a).2.f.tdiv 1000 ≤ 2147483
        rw [Int.tdiv_eq_ediv_of_nonneg hf]; omega
    · rw [if_neg h2] at h; exact absurd h (by decide)
  · rw [if_neg h1] at h; exact absurd h h1
theorem entX_ok {l : List UInt8} {a n : Int} (h : (entX l a n).1 = 0) : 0 ≤ a ∧ a < ((entX l a n).2.2 : Int) ∧ (entX l a n).2.2 ≤ l.length := by
  unfold entX at h ⊢
  by_cases h1 : (wholeX l a).1 = 0
  · rw [if_pos h1] at h ⊢
    obtain ⟨w0, w1, w2, -, -⟩ := wholeX_ok h1
    by_cases h2 : (wholeX l (wholeX l a).2.2).1 = 0
    · rw [if_pos h2] at h ⊢
      obtain ⟨v0, v1, v2, -, -⟩ := wholeX_ok h2
      unfold entT at h ⊢
      by_cases h3 : (tokX l (wholeX l (wholeX l a).2.2).2.2).1 = 0
      · rw [if_pos h3] at h ⊢
        obtain ⟨-, -, -, t4, t5, t6⟩ := tokX_ok h3
        by_cases h4 : (isWd (tokX l (wholeX l (wholeX l a).2.2).2.2).2 [110] || isWd (tokX l (wholeX l (wholeX l a).2.2).2.2).2 [102]) = true
        · rw [if_pos h4]; refine ⟨w0, ?_, t6⟩; simp only []; omega
        · rw [if_neg h4] at h; exact absurd h (by decide)
      · rw [if_neg h3] at h; exact absurd h h3
    · rw [if_neg h2] at h; exact absurd h h2
  · rw [if_neg h1] at h; exact absurd h h1
theorem secG_ok {l : List UInt8} : ∀ (n : Nat) (first : Int) (a : Nat) (acc : List Xent), (secG l n first a acc).1 = 0 → a ≤ l.length → a ≤ (secG l n first a acc).2.2 ∧ (secG l n first a acc).2.2 ≤ l.length ∧ (secG l n first a acc).2.1.length = acc.length + n
  | 0, _, a, acc, _, ha => ⟨Nat.le_refl _, ha, rfl⟩
  | n + 1, first, a, acc, h, ha => by
    rw [secG] at h ⊢
    by_cases h1 : (entX l a first).1 = 0
    · rw [if_pos h1] at h ⊢
      obtain ⟨-, e1, e2⟩ := entX_ok h1
      obtain ⟨g1, g2, g3⟩ := secG_ok n (first + 1) _ _ h e2
      rw [List.length_append, List.length_singleton] at g3
      exact ⟨by omega, g2, by omega⟩
    · rw [if_neg h1] at h; exact absurd h h1
theorem secX_ok {l : List UInt8} {first : Int} {a : Nat} (h : (secX l first a).1 = 0) : a < (secX l first a).2.2 ∧ (secX l first a).2.2 ≤ l.length ∧ (0 ≤ first → (secX l first a).2.1.length ≤ 4096) := by
  unfold secX at h ⊢
  by_cases h1 : (wholeX l a).1 = 0
  · rw [if_pos h1] at h ⊢
    obtain ⟨w0, w1, w2, w3, w4⟩ := wholeX_ok h1
    by_cases h2 : 0 < (wholeX l a).2.1 ∧ 4096 < first + (wholeX l a).2.1
    · rw [if_pos h2] at h; exact absurd h (by decide)
    · rw [if_neg h2] at h ⊢
      obtain ⟨g1, g2, g3⟩ := secG_ok _ _ _ _ h w2
      refine ⟨by omega, g2, fun hf => ?_⟩
      rw [g3, List.length_nil]; omega
  · rw [if_neg h1] at h; exact absurd h h1

/-! ### a text without t -/
theorem tok_sub (l : List UInt8) (k : Nat) : (tokV l k).2.kind = 8 → ∀ b ∈ (tokV l k).2.s, b ∈ l := by
  have hr : ∀ (kind : Int) (x : R3), kind ≠ 8 → (ofR3 kind x).2.kind = 8 → ∀ b ∈ (ofR3 kind x).2.s, b ∈ l := fun kind x hk => by
    unfold ofR3; split
    · exact fun h => absurd h hk
    · exact fun h => absurd (show (0 : Int) = 8 from h) (by decide)
  have z : ∀ (e kd : Int) (to_ : Nat), (((e, ⟨kd, 0, [], false, 0, to_⟩) : Int × Tok)).2.kind = 8 → ∀ b ∈ (((e, ⟨kd, 0, [], false, 0, to_⟩) : Int × Tok)).2.s, b ∈ l := fun _ _ _ _ b hb => by cases hb
  unfold tokV
  cases hd : l.drop k with
  | nil => exact z _ _ _
  | cons b r =>
    simp only []
    split
    · exact z _ _ _
    · split
      · exact z _ _ _
      · split
        · split
          · exact z _ _ _
          · exact hr _ _ (by decide)
        · split
          · split
            · exact z _ _ _
            · exact z _ _ _
          · split
            · exact hr _ _ (by decide)
            · split
              · exact hr _ _ (by decide)
              · split
                · exact z _ _ _
                · unfold wordV
                  split
                  · split <;> (intro _ b hb; cases hb)
                  · intro _ b hb
                    exact List.mem_of_mem_drop (List.mem_of_mem_take hb)
theorem next_sub (l : List UInt8) (a : Int) (h : (nextV l a).2.kind = 8) : ∀ b ∈ (nextV l a).2.s, b ∈ l := by
  unfold nextV at h ⊢
  split
  · rename_i h1
    rw [if_pos h1] at h
    split
    · rename_i h2
      rw [if_pos h2] at h
      exact tok_sub l _ h
    · intro b hb; cases hb
  · intro b hb; cases hb
theorem wd_sub {l : List UInt8} {a : Int} {s : List UInt8} (h : isWd (tokX l a).2 s = true) (hs : s ≠ []) : ∀ b ∈ s, b ∈ l := by
  unfold isWd at h
  rw [Bool.and_eq_true, beq_iff_eq, beq_iff_eq] at h
  obtain ⟨h1, h2⟩ := h
  have h0 : (tokX l a).1 = 0 := by
    by_cases h0 : (tokX l a).1 = 0
    · exact h0
    · exfalso
      have : (tokX l a).2 = zero := by
        unfold tokX at h0 ⊢
        split
        · rename_i h3
          rw [if_pos h3] at h0
          split
          · rfl
          · rename_i h4; rw [if_neg h4] at h0; exact absurd rfl h0
        · rfl
      rw [this] at h1
      exact absurd h1 (by decide)
  rw [(tokX_ok h0).2.1] at h1 h2
  intro b hb
  exact next_sub l a h1 b (by rw [h2]; exact hb)
theorem entsG_no {l : List UInt8} (hl : ∀ b ∈ l, b ≠ 116) : ∀ (F a : Nat) (acc : List Xent), (entsG l F a acc).1 ≠ 0
  | 0, _, _ => by rw [entsG]; decide
  | F + 1, a, acc => by
    rw [entsG]
    split
    · split
      · rename_i h
        exact absurd rfl (hl 116 (wd_sub h (by decide) 116 (by decide)))
      · split
        · split
          · exact entsG_no hl F _ _
          · assumption
        · show (3 : Int) ≠ 0; decide
    · assumption
theorem parse_no {l : List UInt8} (hl : ∀ b ∈ l, b ≠ 116) (a : Int) : (parseX l a).1 ≠ 0 ∧ (parseX l a).2 = ([], Cx.nul) := by
  have h : (entsX l a).1 ≠ 0 := by
    unfold entsX
    split
    · split
      · exact entsG_no hl _ _ _
      · show (3 : Int) ≠ 0; decide
    · assumption
  unfold parseX
  rw [if_neg h]; exact ⟨h, rfl⟩
theorem parse_bad {l : List UInt8} {a : Int} (h : (parseX l a).1 ≠ 0) : (parseX l a).2 = ([], Cx.nul) := by
  unfold parseX at h ⊢
  repeat' split
  all_goals first | rfl | (exfalso; revert h; simp_all)
theorem start_no {l : List UInt8} (hl : ∀ b ∈ l, b ≠ 116) : startX l = (3, 0) := by
  have h : Lib.lastIndex l startT = -1 := by
    unfold Lib.lastIndex
    split
    · rcases Lib.lastOcc_spec l startT (l.length - startT.length + 1) with ⟨e, _⟩ | ⟨i, _, _, ho, _⟩
      · exact e
      · exfalso
        have hp := List.isPrefixOf_iff_prefix.1 (show startT.isPrefixOf (l.drop i) = true from ho)
        obtain ⟨t, ht⟩ := hp
        have : (116 : UInt8) ∈ l.drop i := by rw [← ht]; exact List.mem_append_left _ (by decide)
        exact hl 116 (List.mem_of_mem_drop this) rfl
    · rfl
  unfold startX
  rw [h, if_pos (by decide)]

/-! ### the last word that begins a place -/
def stTail (k : Nat) : List UInt8 := [10, 115, 116, 97, 114, 116, 120, 114, 101, 102, 10, UInt8.ofNat (48 + k / 10), UInt8.ofNat (48 + k % 10), 10, 37, 37, 69, 79, 70]
theorem occ_app (s t sub : List UInt8) (j : Nat) : Lib.occAt (s ++ t) sub (s.length + j) = Lib.occAt t sub j := by
  unfold Lib.occAt; rw [← List.drop_drop, List.drop_left]
theorem st_all : ((List.range 64).all fun k => Lib.occAt (stTail k) startT 1 && ((List.range 20).all fun j => j ≤ 1 || !Lib.occAt (stTail k) startT j) && decide (wholeX (stTail k) 10 = (0, (k : Int), 13))) = true := by kernel_rfl
theorem last_here (s : List UInt8) {k : Nat} (hk : k < 64) : Lib.lastIndex (s ++ stTail k) startT = ((s.length + 1 : Nat) : Int) := by
  have key := List.all_eq_true.1 st_all k (List.mem_range.2 hk)
  simp only [Bool.and_eq_true, List.all_eq_true, List.mem_range, Bool.or_eq_true, decide_eq_true_eq, Bool.not_eq_true'] at key
  obtain ⟨⟨k1, k2⟩, -⟩ := key
  have hlen : (s ++ stTail k).length = s.length + 19 := by rw [List.length_append]; rfl
  unfold Lib.lastIndex
  rw [if_pos (by rw [hlen]; show 9 ≤ _; omega), hlen]
  rcases Lib.lastOcc_spec (s ++ stTail k) startT (s.length + 19 - startT.length + 1) with ⟨e, hn⟩ | ⟨i, hi, e, ho, hn⟩
  · exfalso
    have := hn (s.length + 1) (by show _ < s.length + 19 - 9 + 1; omega)
    rw [occ_app, k1] at this; cases this
  · rw [e]
    have hi9 : i < s.length + 11 := by have : startT.length = 9 := rfl; omega
    rcases Nat.lt_trichotomy i (s.length + 1) with h | h | h
    · exfalso
      have := hn (s.length + 1) h (by have : startT.length = 9 := rfl; omega)
      rw [occ_app, k1] at this; cases this
    · rw [h]
    · exfalso
      have h2 := k2 (i - s.length) (by omega)
      rw [show i = s.length + (i - s.length) by omega, occ_app] at ho
      rcases h2 with h2 | h2
      · omega
      · rw [ho] at h2; cases h2
theorem tok_app (a r : List UInt8) : tokX (a ++ r) a.length = if (tokX r 0).1 = 0 then (0, { (tokX r 0).2 with frm := (tokX r 0).2.frm + a.length, to := (tokX r 0).2.to + a.length }) else ((tokX r 0).1, zero) := by
  unfold tokX
  rw [Cx.next_app]
  by_cases h : (nextV r 0).1 = 0
  · by_cases h2 : (nextV r 0).2.kind = 0
    · simp [h, h2]
    · simp [h, h2]
  · simp [h]
theorem whole_app (a r : List UInt8) : wholeX (a ++ r) a.length = if (wholeX r 0).1 = 0 then (0, (wholeX r 0).2.1, (wholeX r 0).2.2 + a.length) else ((wholeX r 0).1, 0, 0) := by
  unfold wholeX
  rw [tok_app]
  by_cases h : (tokX r 0).1 = 0
  · by_cases h2 : isWh (tokX r 0).2 = true
    · have h3 : isWh { (tokX r 0).2 with frm := (tokX r 0).2.frm + a.length, to := (tokX r 0).2.to + a.length } = true := h2
      simp [h, h2, h3]
    · have h3 : ¬ isWh { (tokX r 0).2 with frm := (tokX r 0).2.frm + a.length, to := (tokX r 0).2.to + a.length } = true := h2
      simp [h, h2, h3]
  · simp [h]
theorem whole_tail {k : Nat} (hk : k < 64) : wholeX (stTail k) 10 = (0, (k : Int), 13) := by
  have key := List.all_eq_true.1 st_all k (List.mem_range.2 hk)
  simp only [Bool.and_eq_true, List.all_eq_true, List.mem_range, Bool.or_eq_true, decide_eq_true_eq, Bool.not_eq_true'] at key
  exact key.2
/-- The place that stands behind the last word that begins it. -/
theorem start_here (s : List UInt8) {k : Nat} (hk : k < 64) : startX (s ++ stTail k) = if s.length + 19 < k then (2, 0) else (0, (k : Int)) := by
  have hlen : (s ++ stTail k).length = s.length + 19 := by rw [List.length_append]; rfl
  have hw : wholeX (s ++ stTail k) (((s.length + 1 : Nat) : Int) + 9) = (0, (k : Int), s.length + 13) := by
    have e : s ++ stTail k = (s ++ [10, 115, 116, 97, 114, 116, 120, 114, 101, 102]) ++ (stTail k).drop 10 := by simp [stTail]
    have e2 : stTail k = [10, 115, 116, 97, 114, 116, 120, 114, 101, 102] ++ (stTail k).drop 10 := rfl
    have h1 := whole_app (s ++ [10, 115, 116, 97, 114, 116, 120, 114, 101, 102]) ((stTail k).drop 10)
    have h2 := whole_app [10, 115, 116, 97, 114, 116, 120, 114, 101, 102] ((stTail k).drop 10)
    rw [← e2] at h2
    have h3 := whole_tail hk
    rw [show ((([10, 115, 116, 97, 114, 116, 120, 114, 101, 102] : List UInt8)).length : Int) = 10 from rfl, h3] at h2
    have hc : (wholeX ((stTail k).drop 10) 0).1 = 0 := by
      by_cases hc : (wholeX ((stTail k).drop 10) 0).1 = 0
      · exact hc
      · rw [if_neg hc] at h2
        exact absurd (congrArg Prod.fst h2).symm hc
    rw [if_pos hc] at h1 h2
    have h4 : (k : Int) = (wholeX ((stTail k).drop 10) 0).2.1 := congrArg (fun x => x.2.1) h2
    have h5 : 13 = (wholeX ((stTail k).drop 10) 0).2.2 + 10 := congrArg (fun x => x.2.2) h2
    have e3 : (((s.length + 1 : Nat) : Int) + 9) = ((s ++ [10, 115, 116, 97, 114, 116, 120, 114, 101, 102]).length : Int) := by rw [List.length_append]; simp; omega
    rw [e3, e, h1, ← h4, List.length_append]
    simp; omega
  unfold startX
  rw [last_here s hk, if_neg (by omega), hw, if_neg (show ¬ (0 : Int) = 4 by decide), if_pos rfl, hlen]
  by_cases h : s.length + 19 < k
  · rw [if_pos h, if_pos (by simp; omega)]
  · rw [if_neg h, if_neg (by simp; omega)]

end Go.Proofs.Ytakbhdhlcnpejaa.Rx

namespace Go.Proofs.Ytakbhdhlcnpejaa.Cx
open Lx
set_option linter.unusedSimpArgs false
set_option linter.unusedVariables false

def objWd : List UInt8 := [111, 98, 106]
def endobjWd : List UInt8 := [101, 110, 100, 111, 98, 106]
def streamWd : List UInt8 := [115, 116, 114, 101, 97, 109]
def endstreamWd : List UInt8 := [101, 110, 100, 115, 116, 114, 101, 97, 109]
def lengthK : ByteArray := ⟨#[76, 101, 110, 103, 116, 104]⟩

/-- The next token, which must fit. -/
def wantV (p : Tok → Bool) (l : List UInt8) (a : Int) : Int × Tok :=
  if (nextV l a).1 = 0 then (if (nextV l a).2.kind = 0 then (4, zero) else if p (nextV l a).2 then (0, (nextV l a).2) else (3, zero)) else ((nextV l a).1, zero)
/-- Words, one behind the other: an error, or the place behind. -/
def wordsV (l : List UInt8) : List (List UInt8) → Int → Int × Int
  | [], a => (0, a)
  | s :: r, a => if (wantV (fun t => isW t s) l a).1 = 0 then wordsV l r (wantV (fun t => isW t s) l a).2.to else ((wantV (fun t => isW t s) l a).1, 0)
def pairO (n g : Tok) : Ob := .mk 7 (n.f.tdiv 1000) g.f ⟨#[]⟩ [] []
/-- What stands ahead of an object: its numbers, as a Ref. -/
def headV (l : List UInt8) (a : Int) : Int × Ob × Int :=
  if (wantV wholeT l a).1 = 0 then
    (if (wantV wholeT l (wantV wholeT l a).2.to).1 = 0 then
      (if (wordsV l [objWd] (wantV wholeT l (wantV wholeT l a).2.to).2.to).1 = 0 then (0, pairO (wantV wholeT l a).2 (wantV wholeT l (wantV wholeT l a).2.to).2, (wordsV l [objWd] (wantV wholeT l (wantV wholeT l a).2.to).2.to).2)
       else ((wordsV l [objWd] (wantV wholeT l (wantV wholeT l a).2.to).2.to).1, nul, 0))
     else ((wantV wholeT l (wantV wholeT l a).2.to).1, nul, 0))
  else ((wantV wholeT l a).1, nul, 0)
/-- How many bytes the end of a line has; 0, if none is there. -/
def lineN : List UInt8 → Nat
  | 13 :: 10 :: _ => 2
  | 10 :: _ => 1
  | 13 :: _ => 1
  | _ => 0
def isLen (o : Ob) : Bool := o.k == 2 && decide (0 ≤ o.f) && decide (o.f.tmod 1000 = 0)
/-- A stream's bytes, behind the word stream. -/
def streamV (l : List UInt8) (o : Ob) (a : Nat) : Int × Ob × Int :=
  if lineN (l.drop a) = 0 ∨ isLen (get o lengthK) = false then (3, nul, 0)
  else if (l.length : Int) - ((a + lineN (l.drop a) : Nat) : Int) < (get o lengthK).f.tdiv 1000 then (4, nul, 0)
  else if (wordsV l [endstreamWd, endobjWd] ((a + lineN (l.drop a) : Nat) + (get o lengthK).f.tdiv 1000)).1 = 0 then
    (0, .mk 8 0 0 (str ((l.drop (a + lineN (l.drop a))).take ((get o lengthK).f.tdiv 1000).toNat)) [] o.d, (wordsV l [endstreamWd, endobjWd] ((a + lineN (l.drop a) : Nat) + (get o lengthK).f.tdiv 1000)).2)
  else ((wordsV l [endstreamWd, endobjWd] ((a + lineN (l.drop a) : Nat) + (get o lengthK).f.tdiv 1000)).1, nul, 0)
def endsP (o : Ob) (t : Tok) : Bool := isW t endobjWd || (isW t streamWd && o.k == 6)
/-- The object, and what ends it. -/
def bodyV (l : List UInt8) (a : Int) : Int × Ob × Int :=
  if (parse l a).1 = 0 then
    (if (wantV (endsP (parse l a).2.1) l (parse l a).2.2).1 = 0 then
      (if isW (wantV (endsP (parse l a).2.1) l (parse l a).2.2).2 streamWd then streamV l (parse l a).2.1 (wantV (endsP (parse l a).2.1) l (parse l a).2.2).2.to
       else (0, (parse l a).2.1, ((wantV (endsP (parse l a).2.1) l (parse l a).2.2).2.to : Int)))
     else ((wantV (endsP (parse l a).2.1) l (parse l a).2.2).1, nul, 0))
  else ((parse l a).1, nul, 0)
/-- The numbered object at a place: an error, two numbers, the object, the place behind. -/
def indV (l : List UInt8) (a : Int) : Int × Int × Int × Ob × Int :=
  if (headV l a).1 = 0 then
    (if (bodyV l (headV l a).2.2).1 = 0 then (0, (headV l a).2.1.n, (headV l a).2.1.f.tdiv 1000, (bodyV l (headV l a).2.2).2.1, (bodyV l (headV l a).2.2).2.2)
     else ((bodyV l (headV l a).2.2).1, 0, 0, nul, 0))
  else ((headV l a).1, 0, 0, nul, 0)

theorem want_bad {p : Tok → Bool} {l : List UInt8} {a : Int} (h : (wantV p l a).1 ≠ 0) : (wantV p l a).2 = zero := by
  unfold wantV at h ⊢
  repeat' split
  all_goals first | rfl | (exfalso; revert h; simp_all)
theorem want_ok {p : Tok → Bool} {l : List UInt8} {a : Int} (h : (wantV p l a).1 = 0) : (nextV l a).1 = 0 ∧ (wantV p l a).2 = (nextV l a).2 ∧ (nextV l a).2.kind ≠ 0 ∧ p (nextV l a).2 = true := by
  unfold wantV at h ⊢
  by_cases h1 : (nextV l a).1 = 0
  · rw [if_pos h1] at h ⊢
    by_cases h2 : (nextV l a).2.kind = 0
    · rw [if_pos h2] at h; exact absurd h (by decide)
    · rw [if_neg h2] at h ⊢
      cases h3 : p (nextV l a).2 with
      | false => rw [h3] at h; exact absurd h (by simp)
      | true => exact ⟨h1, by rw [if_pos rfl], h2, rfl⟩
  · rw [if_neg h1] at h; exact absurd h h1
theorem want_len {p : Tok → Bool} {l : List UInt8} {a : Int} (h : (wantV p l a).1 = 0) : 0 ≤ a ∧ a < ((wantV p l a).2.to : Int) ∧ (wantV p l a).2.to ≤ l.length := by
  obtain ⟨h1, h2, h3, -⟩ := want_ok h
  obtain ⟨b1, b2, b3, b4, b5, b6, b7⟩ := next_bd l a h1
  rw [h2]
  refine ⟨b1, ?_, b6⟩
  rcases b7 with ⟨k, _⟩ | ⟨_, _, k⟩
  · exact absurd k h3
  · omega
theorem words_bd {l : List UInt8} : ∀ (ss : List (List UInt8)) (a : Int), (wordsV l ss a).1 = 0 → a ≤ l.length → 0 ≤ a → a ≤ (wordsV l ss a).2 ∧ (wordsV l ss a).2 ≤ l.length
  | [], a, _, h, _ => ⟨Int.le_refl _, h⟩
  | s :: r, a, h, ha, h0 => by
    rw [wordsV] at h ⊢
    by_cases h1 : (wantV (fun t => isW t s) l a).1 = 0
    · rw [if_pos h1] at h ⊢
      obtain ⟨w0, w1, w2⟩ := want_len h1
      have := words_bd r _ h (by omega) (by omega)
      omega
    · rw [if_neg h1] at h; exact absurd h h1
theorem lineN_le : ∀ l : List UInt8, lineN l ≤ l.length ∧ lineN l ≤ 2 := by
  intro l; unfold lineN; split <;> simp

end Go.Proofs.Ytakbhdhlcnpejaa.Cx

namespace Go.Proofs.Ytakbhdhlcnpejaa.Sx
open Lx Cx Rx
set_option linter.unusedSimpArgs false
set_option linter.unusedVariables false

/-- An object with its numbers. -/
structure Nm where
  n : Int
  g : Int
  o : Ob
def pdfT : List UInt8 := [37, 80, 68, 70, 45]
def prevK : ByteArray := ⟨#[80, 114, 101, 118]⟩
def wholeO (o : Ob) : Bool := o.k == 2 && o.n == 1 && decide (0 ≤ o.f)
/-- The table at a place, if it was not met, and is within the text. -/
def tableV (l : List UInt8) (met : List Int) (a : Int) : Int × List Xent × Ob :=
  if met.contains a then (7, [], nul) else if (l.length : Int) < a then (2, [], nul) else parseX l a
/-- The tables behind one, whose trailer is 'last'. -/
def tabsG (l : List UInt8) : Nat → List Int → List Xent → Ob → Int × List Xent
  | 0, _, _, _ => (7, [])
  | F + 1, met, acc, last =>
    if wholeO (get last prevK) then
      (if (tableV l met ((get last prevK).f.tdiv 1000)).1 = 0 then
        tabsG l F ((get last prevK).f.tdiv 1000 :: met) (acc ++ (tableV l met ((get last prevK).f.tdiv 1000)).2.1) (tableV l met ((get last prevK).f.tdiv 1000)).2.2
       else ((tableV l met ((get last prevK).f.tdiv 1000)).1, []))
    else (0, acc)
/-- All tables: an error, the entries, the first one's trailer. -/
def tablesV (l : List UInt8) : Int × List Xent × Ob :=
  if (startX l).1 = 0 then
    (if (tableV l [] (startX l).2).1 = 0 then
      (if (tabsG l (l.length + 2) [(startX l).2] (tableV l [] (startX l).2).2.1 (tableV l [] (startX l).2).2.2).1 = 0 then
        (0, (tabsG l (l.length + 2) [(startX l).2] (tableV l [] (startX l).2).2.1 (tableV l [] (startX l).2).2.2).2, (tableV l [] (startX l).2).2.2)
       else ((tabsG l (l.length + 2) [(startX l).2] (tableV l [] (startX l).2).2.1 (tableV l [] (startX l).2).2.2).1, [], nul))
     else ((tableV l [] (startX l).2).1, [], nul))
  else ((startX l).1, [], nul)
/-- The object that an entry tells of. -/
def objV1 (l : List UInt8) (e : Xent) : Int × Nm :=
  if (l.length : Int) < e.off then (2, ⟨0, 0, nul⟩)
  else if (indV l e.off).1 = 0 then (if (indV l e.off).2.1 = e.n ∧ (indV l e.off).2.2.1 = e.gen then (0, ⟨(indV l e.off).2.1, (indV l e.off).2.2.1, (indV l e.off).2.2.2.1⟩) else (3, ⟨0, 0, nul⟩))
  else ((indV l e.off).1, ⟨0, 0, nul⟩)
def objsG (l : List UInt8) : List Xent → List Nm → Int × List Nm
  | [], acc => (0, acc)
  | e :: r, acc => if e.used then (if (objV1 l e).1 = 0 then objsG l r (acc ++ [(objV1 l e).2]) else ((objV1 l e).1, [])) else objsG l r acc
/-- What Open may answer: an error, the objects, the trailer. -/
def OpenR (l : List UInt8) (X : Int × List Nm × Ob) : Prop :=
  if pdfT.isPrefixOf l then
    (if (tablesV l).1 = 0 then ∃ m, IsM (tablesV l).2.1 m ∧ X = (if (objsG l m []).1 = 0 then (0, (objsG l m []).2, (tablesV l).2.2) else ((objsG l m []).1, [], nul))
     else X = ((tablesV l).1, [], nul))
  else X = (3, [], nul)

theorem openR_one {l : List UInt8} {X Y : Int × List Nm × Ob} (h : OpenR l X) (k : OpenR l Y) : X = Y := by
  unfold OpenR at h k
  split at h
  · split at h
    · rename_i h1 h2
      rw [if_pos h1, if_pos h2] at k
      obtain ⟨m, hm, rfl⟩ := h
      obtain ⟨m', hm', rfl⟩ := k
      rw [isM_one hm hm']
    · rename_i h1 h2
      rw [if_pos h1, if_neg h2] at k; rw [h, k]
  · rename_i h1
    rw [if_neg h1] at k; rw [h, k]

theorem table_met {l : List UInt8} {met : List Int} {a : Int} (h : (tableV l met a).1 = 0) : a ∉ met ∧ a ≤ l.length ∧ tableV l met a = parseX l a := by
  unfold tableV at h ⊢
  by_cases h1 : met.contains a = true
  · rw [if_pos h1] at h; exact absurd h (by decide)
  · rw [if_neg h1] at h ⊢
    by_cases h2 : (l.length : Int) < a
    · rw [if_pos h2] at h; exact absurd h (by decide)
    · rw [if_neg h2] at h ⊢
      exact ⟨by simpa using h1, by omega, rfl⟩
theorem table_bad {l : List UInt8} {met : List Int} {a : Int} (h : (tableV l met a).1 ≠ 0) : (tableV l met a).2 = ([], nul) := by
  unfold tableV at h ⊢
  split
  · rfl
  · rename_i h1
    rw [if_neg h1] at h
    split
    · rfl
    · rename_i h2
      rw [if_neg h2] at h
      exact parse_bad h

/-! ### how many entries -/
theorem secG_adv {l : List UInt8} : ∀ (n : Nat) (first : Int) (a : Nat) (acc : List Xent), (secG l n first a acc).1 = 0 → a + n ≤ (secG l n first a acc).2.2
  | 0, _, a, acc, _ => Nat.le_refl _
  | n + 1, first, a, acc, h => by
    rw [secG] at h ⊢
    by_cases h1 : (entX l a first).1 = 0
    · rw [if_pos h1] at h ⊢
      obtain ⟨-, e1, e2⟩ := entX_ok h1
      have := secG_adv n (first + 1) _ _ h
      omega
    · rw [if_neg h1] at h; exact absurd h h1
theorem secX_adv {l : List UInt8} {first : Int} {a : Nat} (h : (secX l first a).1 = 0) : (secX l first a).2.1.length + a ≤ (secX l first a).2.2 := by
  unfold secX at h ⊢
  by_cases h1 : (wholeX l a).1 = 0
  · rw [if_pos h1] at h ⊢
    obtain ⟨w0, w1, w2, w3, w4⟩ := wholeX_ok h1
    by_cases h2 : 0 < (wholeX l a).2.1 ∧ 4096 < first + (wholeX l a).2.1
    · rw [if_pos h2] at h; exact absurd h (by decide)
    · rw [if_neg h2] at h ⊢
      have g1 := secG_adv _ _ _ _ h
      have g2 := secG_ok _ _ _ _ h w2
      simp only [List.length_nil] at g2
      omega
  · rw [if_neg h1] at h; exact absurd h h1
theorem entsG_adv {l : List UInt8} : ∀ (F : Nat) (a : Nat) (acc : List Xent), (entsG l F a acc).1 = 0 → (entsG l F a acc).2.1.length + a ≤ acc.length + (entsG l F a acc).2.2 ∧ (entsG l F a acc).2.2 ≤ l.length
  | 0, _, _, h => by rw [entsG] at h; exact absurd h (by decide)
  | F + 1, a, acc, h => by
    rw [entsG] at h ⊢
    by_cases h1 : (tokX l a).1 = 0
    · rw [if_pos h1] at h ⊢
      obtain ⟨-, -, -, t4, t5, t6⟩ := tokX_ok h1
      by_cases h2 : isWd (tokX l a).2 trailT = true
      · rw [if_pos h2]; simp only []; omega
      · rw [if_neg h2] at h ⊢
        by_cases h3 : isWh (tokX l a).2 = true
        · rw [if_pos h3] at h ⊢
          by_cases h4 : (secX l ((tokX l a).2.f.tdiv 1000) (tokX l a).2.to).1 = 0
          · rw [if_pos h4] at h ⊢
            have g := entsG_adv F _ _ h
            have s := secX_adv h4
            rw [List.length_append] at g
            omega
          · rw [if_neg h4] at h; exact absurd h h4
        · rw [if_neg h3] at h; exact absurd h (by decide)
    · rw [if_neg h1] at h; exact absurd h h1
theorem ents_len {l : List UInt8} {a : Int} (h : (entsX l a).1 = 0) : (entsX l a).2.1.length ≤ l.length := by
  unfold entsX at h ⊢
  by_cases h1 : (tokX l a).1 = 0
  · rw [if_pos h1] at h ⊢
    by_cases h2 : isWd (tokX l a).2 [120, 114, 101, 102] = true
    · rw [if_pos h2] at h ⊢
      have := entsG_adv _ _ _ h
      simp only [List.length_nil] at this
      omega
    · rw [if_neg h2] at h; exact absurd h (by decide)
  · rw [if_neg h1] at h; exact absurd h h1
theorem parse_len (l : List UInt8) (a : Int) : (parseX l a).2.1.length ≤ l.length := by
  unfold parseX
  by_cases h1 : (entsX l a).1 = 0
  · rw [if_pos h1]
    split
    · split
      · exact ents_len h1
      · exact Nat.zero_le _
    · exact Nat.zero_le _
  · rw [if_neg h1]; exact Nat.zero_le _
theorem table_len (l : List UInt8) (met : List Int) (a : Int) : (tableV l met a).2.1.length ≤ l.length := by
  unfold tableV
  split
  · exact Nat.zero_le _
  · split
    · exact Nat.zero_le _
    · exact parse_len l a
theorem nodup_bd (n : Nat) (m : List Int) (hm : m.Nodup) (hb : ∀ a ∈ m, 0 ≤ a ∧ a ≤ n) : m.length ≤ n + 1 := by
  have := nodup_le m ((List.range (n + 1)).map Int.ofNat) hm (fun x hx => by
    have := hb x hx
    exact List.mem_map.2 ⟨x.toNat, List.mem_range.2 (by omega), by show ((x.toNat : Nat) : Int) = x; omega⟩)
  rw [List.length_map, List.length_range] at this
  exact this

end Go.Proofs.Ytakbhdhlcnpejaa.Sx

namespace Go.Proofs.Ytakbhdhlcnpejaa.Sx
open Lx Cx Rx
set_option linter.unusedSimpArgs false
set_option linter.unusedVariables false

/-- The first object with a number. -/
def findV : List Nm → Int → Ob
  | [], _ => nul
  | x :: r, n => if x.n = n then x.o else findV r n
/-- Where the first that fits stands; -1. -/
def idxN (p : Nm → Bool) (l : List Nm) : Int := if l.findIdx p < l.length then (l.findIdx p : Int) else -1
/-- So many Refs are followed. -/
def stepsV : Nat → List Nm → Ob → Ob
  | 0, _, o => o
  | k + 1, f, o => if o.k = 7 then stepsV k f (findV f o.n) else o
def resV (f : List Nm) (o : Ob) : Int × Ob := if (stepsV 64 f o).k = 7 then (7, nul) else (0, stepsV 64 f o)
def entryV (f : List Nm) (o : Ob) (key : ByteArray) : Int × Ob := if (resV f o).1 = 0 then resV f (get (resV f o).2 key) else ((resV f o).1, nul)
def eqN (n : Int) (x : Nm) : Bool := x.n == n
def gtN (n : Int) (x : Nm) : Bool := decide (n < x.n)
/-- Put. -/
def putL (l : List Nm) (n : Int) (o : Ob) : List Nm :=
  if h : l.findIdx (eqN n) < l.length then l.take (l.findIdx (eqN n)) ++ ⟨l[l.findIdx (eqN n)].n, l[l.findIdx (eqN n)].g, o⟩ :: l.drop (l.findIdx (eqN n) + 1)
  else l.take (l.findIdx (gtN n)) ++ ⟨n, 0, o⟩ :: l.drop (l.findIdx (gtN n))
/-- The least number above 0 that none has. -/
def IsFree (l : List Nm) (n : Int) : Prop := 1 ≤ n ∧ (∀ x ∈ l, x.n ≠ n) ∧ ∀ m, 1 ≤ m → m < n → ∃ x ∈ l, x.n = m
theorem free_one {l : List Nm} {a b : Int} (h : IsFree l a) (k : IsFree l b) : a = b := by
  rcases Int.lt_trichotomy a b with c | c | c
  · obtain ⟨x, hx, e⟩ := k.2.2 a h.1 c
    exact absurd e (h.2.1 x hx)
  · exact c
  · obtain ⟨x, hx, e⟩ := h.2.2 b k.1 c
    exact absurd e (k.2.1 x hx)

theorem find_idx (l : List Nm) (n : Int) : findV l n = if h : l.findIdx (eqN n) < l.length then l[l.findIdx (eqN n)].o else nul := by
  induction l with
  | nil => rfl
  | cons x r ih =>
    rw [findV]
    by_cases h : x.n = n
    · have e : eqN n x = true := by unfold eqN; simpa using h
      have z : (x :: r).findIdx (eqN n) = 0 := by rw [List.findIdx_cons, e]; rfl
      rw [if_pos h, dif_pos (by rw [z]; simp)]
      simp only [z, List.getElem_cons_zero]
    · have e : eqN n x = false := by unfold eqN; simpa using h
      have z : (x :: r).findIdx (eqN n) = r.findIdx (eqN n) + 1 := by rw [List.findIdx_cons, e]; rfl
      rw [if_neg h, ih]
      by_cases c : r.findIdx (eqN n) < r.length
      · rw [dif_pos c, dif_pos (by rw [z]; simpa using c)]
        simp only [z, List.getElem_cons_succ]
      · rw [dif_neg c, dif_neg (by rw [z]; simpa using c)]
theorem find_none {l : List Nm} {n : Int} (h : ∀ x ∈ l, x.n ≠ n) : findV l n = nul := by
  induction l with
  | nil => rfl
  | cons x r ih => rw [findV, if_neg (h x List.mem_cons_self), ih (fun y hy => h y (List.mem_cons_of_mem _ hy))]
theorem find_app (a b : List Nm) (n : Int) : findV (a ++ b) n = if (∀ x ∈ a, x.n ≠ n) then findV b n else findV a n := by
  induction a with
  | nil => simp
  | cons x r ih =>
    rw [List.cons_append, findV, ih]
    by_cases h : x.n = n
    · rw [if_pos h, if_neg (fun k => k x List.mem_cons_self h), findV, if_pos h]
    · rw [if_neg h, findV, if_neg h]
      by_cases c : ∀ y ∈ r, y.n ≠ n
      · rw [if_pos c, if_pos (fun y hy => by
          rcases List.mem_cons.1 hy with rfl | hy
          · exact h
          · exact c y hy)]
      · rw [if_neg c, if_neg (fun k => c (fun y hy => k y (List.mem_cons_of_mem _ hy)))]
theorem before_idx {p : Nm → Bool} {l : List Nm} {x : Nm} (hx : x ∈ l.take (l.findIdx p)) : p x = false := by
  obtain ⟨i, hi, rfl⟩ := List.mem_iff_getElem.1 hx
  rw [List.length_take] at hi
  rw [List.getElem_take]
  have := List.not_of_lt_findIdx (p := p) (xs := l) (i := i) (by omega)
  simpa using this
theorem idx_hit {p : Nm → Bool} {l : List Nm} (h : l.findIdx p < l.length) : p l[l.findIdx p] = true := List.findIdx_getElem (w := h)
theorem eqN_iff {n : Int} {x : Nm} : eqN n x = true ↔ x.n = n := by unfold eqN; exact beq_iff_eq
theorem eqN_no {n : Int} {x : Nm} : eqN n x = false ↔ x.n ≠ n := by unfold eqN; exact beq_eq_false_iff_ne
theorem idx_none {p : Nm → Bool} {l : List Nm} (h : ¬ l.findIdx p < l.length) : ∀ x ∈ l, p x = false := by
  intro x hx
  have e : l.take (l.findIdx p) = l := List.take_of_length_le (by omega)
  exact before_idx (by rw [e]; exact hx)
theorem put_len (l : List Nm) (n : Int) (o : Ob) : (putL l n o).length ≤ l.length + 1 ∧ l.length ≤ (putL l n o).length := by
  unfold putL
  have h1 := List.findIdx_le_length (p := gtN n) (xs := l)
  split
  · simp only [List.length_append, List.length_take, List.length_cons, List.length_drop]; omega
  · simp only [List.length_append, List.length_take, List.length_cons, List.length_drop]; omega
/-- What was put is found. -/
theorem put_same (l : List Nm) (n : Int) (o : Ob) : findV (putL l n o) n = o := by
  unfold putL
  split
  · rename_i h
    rw [find_app, if_pos, findV, if_pos]
    · exact eqN_iff.1 (idx_hit h)
    · intro x hx; exact eqN_no.1 (before_idx hx)
  · rename_i h
    rw [find_app, if_pos, findV, if_pos rfl]
    intro x hx
    exact eqN_no.1 (idx_none h x (List.mem_of_mem_take hx))
/-- Nothing else changes. -/
theorem put_other (l : List Nm) (n m : Int) (o : Ob) (hm : m ≠ n) : findV (putL l n o) m = findV l m := by
  unfold putL
  split
  · rename_i h
    have hit : l[l.findIdx (eqN n)].n = n := eqN_iff.1 (idx_hit h)
    conv => rhs; rw [← List.take_append_drop (l.findIdx (eqN n)) l, List.drop_eq_getElem_cons h]
    rw [find_app, find_app]
    simp only [findV]
    have hne : ¬ l[l.findIdx (eqN n)].n = m := by rw [hit]; exact hm.symm
    rw [if_neg hne, if_neg hne]
  · conv => rhs; rw [← List.take_append_drop (l.findIdx (gtN n)) l]
    rw [find_app, find_app]
    simp only [findV]
    rw [if_neg (show ¬ n = m from fun e => hm e.symm)]

/-- Numbers rise. -/
def RiseN (l : List Nm) : Prop := l.Pairwise (fun a b => a.n < b.n)
theorem rise_adj {l : List Nm} (h : ∀ i (h0 : 0 < i) (hi : i < l.length), (l[i - 1]'(by omega)).n < l[i].n) : RiseN l := by
  induction l with
  | nil => exact List.Pairwise.nil
  | cons x r ih =>
    have hr : RiseN r := ih (fun i h0 hi => by
      have := h (i + 1) (by omega) (by simpa using hi)
      obtain ⟨j, rfl⟩ : ∃ j, i = j + 1 := ⟨i - 1, by omega⟩
      simpa using this)
    refine List.pairwise_cons.2 ⟨fun y hy => ?_, hr⟩
    cases r with
    | nil => cases hy
    | cons z r =>
      have h1 := h 1 (by omega) (by simp)
      simp only [Nat.sub_self, List.getElem_cons_zero, List.getElem_cons_succ] at h1
      rcases List.mem_cons.1 hy with rfl | hy
      · exact h1
      · have := (List.pairwise_cons.1 hr).1 y hy; omega
theorem rise_at {l : List Nm} (h : RiseN l) (i : Nat) (h0 : 0 < i) (hi : i < l.length) : (l[i - 1]'(by omega)).n < l[i].n :=
  List.pairwise_iff_getElem.1 h (i - 1) i (by omega) hi (by omega)
theorem put_rise {l : List Nm} (n : Int) (o : Ob) (h : RiseN l) : RiseN (putL l n o) := by
  have hp := fun k => List.pairwise_append.1 (show (l.take k ++ l.drop k).Pairwise (fun a b => a.n < b.n) by rw [List.take_append_drop]; exact h)
  unfold putL
  split
  · rename_i hi
    obtain ⟨p1, p2, p3⟩ := hp (l.findIdx (eqN n))
    rw [List.drop_eq_getElem_cons hi] at p2 p3
    obtain ⟨q1, q2⟩ := List.pairwise_cons.1 p2
    refine List.pairwise_append.2 ⟨p1, List.pairwise_cons.2 ⟨fun y hy => q1 y hy, q2⟩, fun a ha b hb => ?_⟩
    rcases List.mem_cons.1 hb with rfl | hb
    · exact p3 a ha l[l.findIdx (eqN n)] List.mem_cons_self
    · exact p3 a ha b (List.mem_cons_of_mem _ hb)
  · rename_i hi
    obtain ⟨p1, p2, p3⟩ := hp (l.findIdx (gtN n))
    have hne := idx_none hi
    refine List.pairwise_append.2 ⟨p1, List.pairwise_cons.2 ⟨fun y hy => ?_, p2⟩, fun a ha b hb => ?_⟩
    · by_cases c : l.findIdx (gtN n) < l.length
      · rw [List.drop_eq_getElem_cons c] at p2 hy
        have hit : n < l[l.findIdx (gtN n)].n := of_decide_eq_true (show decide (n < l[l.findIdx (gtN n)].n) = true from idx_hit c)
        rcases List.mem_cons.1 hy with rfl | hy
        · exact hit
        · have := (List.pairwise_cons.1 p2).1 y hy; simp only []; omega
      · rw [List.drop_of_length_le (by omega)] at hy; cases hy
    · rcases List.mem_cons.1 hb with rfl | hb
      · have h1 := before_idx ha
        have h2 := hne a (List.mem_of_mem_take ha)
        unfold gtN at h1; unfold eqN at h2
        simp at h1 h2
        simp only []; omega
      · exact p3 a ha b hb

/-! ### what a Ref leads to -/
theorem steps_stop {k : Nat} {f : List Nm} {o : Ob} (h : o.k ≠ 7) : stepsV k f o = o := by
  cases k with
  | zero => rfl
  | succ k => rw [stepsV, if_neg h]

end Go.Proofs.Ytakbhdhlcnpejaa.Sx
