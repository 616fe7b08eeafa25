import Derived.Test.YtoablpaehhjchaaGreatDoorLexM
import Derived.Test.YtoablpaehhjchaaGreatDoorXrfM
namespace Go.Proofs.YtoablpaehhjchaaGreatDoor.Cx
open Lx
set_option linter.unusedSimpArgs false
set_option linter.unusedVariables false

def objWd : List UInt8 := [111, 98, 106]
def endobjWd : List UInt8 := [101, 110, 100, 111, 98, 106]
def streamWd : List UInt8 := [115, 116, 114, 101, 97, 109]
def endstreamWd : List UInt8 := [101, 110, 100, 115, 116, 114, 101, 97, 109]
def lengthK : ByteArray := ⟨#[76, 101, 110, 103, 116, 104]⟩

def wantV (p : Tok → Bool) (l : List UInt8) (a : Int) : Int × Tok :=
  if (nextV l a).1 = 0 then (if (nextV l a).2.kind = 0 then (4, zero) else if p (nextV l a).2 then (0, (nextV l a).2) else (3, zero)) else ((nextV l a).1, zero)

def wordsV (l : List UInt8) : List (List UInt8) → Int → Int × Int
  | [], a => (0, a)
  | s :: r, a => if (wantV (fun t => isW t s) l a).1 = 0 then wordsV l r (wantV (fun t => isW t s) l a).2.to else ((wantV (fun t => isW t s) l a).1, 0)
def pairO (n g : Tok) : Ob := .mk 7 (n.f.tdiv 1000) g.f ⟨#[]⟩ [] []

def headV (l : List UInt8) (a : Int) : Int × Ob × Int :=
  if (wantV wholeT l a).1 = 0 then
    (if (wantV wholeT l (wantV wholeT l a).2.to).1 = 0 then
      (if (wordsV l [objWd] (wantV wholeT l (wantV wholeT l a).2.to).2.to).1 = 0 then (0, pairO (wantV wholeT l a).2 (wantV wholeT l (wantV wholeT l a).2.to).2, (wordsV l [objWd] (wantV wholeT l (wantV wholeT l a).2.to).2.to).2)
       else ((wordsV l [objWd] (wantV wholeT l (wantV wholeT l a).2.to).2.to).1, nul, 0))
     else ((wantV wholeT l (wantV wholeT l a).2.to).1, nul, 0))
  else ((wantV wholeT l a).1, nul, 0)

def lineN : List UInt8 → Nat
  | 13 :: 10 :: _ => 2
  | 10 :: _ => 1
  | 13 :: _ => 1
  | _ => 0
def isLen (o : Ob) : Bool := o.k == 2 && decide (0 ≤ o.f) && decide (o.f.tmod 1000 = 0)

def streamV (l : List UInt8) (o : Ob) (a : Nat) : Int × Ob × Int :=
  if lineN (l.drop a) = 0 ∨ isLen (get o lengthK) = false then (3, nul, 0)
  else if (l.length : Int) - ((a + lineN (l.drop a) : Nat) : Int) < (get o lengthK).f.tdiv 1000 then (4, nul, 0)
  else if (wordsV l [endstreamWd, endobjWd] ((a + lineN (l.drop a) : Nat) + (get o lengthK).f.tdiv 1000)).1 = 0 then
    (0, .mk 8 0 0 (str ((l.drop (a + lineN (l.drop a))).take ((get o lengthK).f.tdiv 1000).toNat)) [] o.d, (wordsV l [endstreamWd, endobjWd] ((a + lineN (l.drop a) : Nat) + (get o lengthK).f.tdiv 1000)).2)
  else ((wordsV l [endstreamWd, endobjWd] ((a + lineN (l.drop a) : Nat) + (get o lengthK).f.tdiv 1000)).1, nul, 0)
def endsP (o : Ob) (t : Tok) : Bool := isW t endobjWd || (isW t streamWd && o.k == 6)

def bodyV (l : List UInt8) (a : Int) : Int × Ob × Int :=
  if (parse l a).1 = 0 then
    (if (wantV (endsP (parse l a).2.1) l (parse l a).2.2).1 = 0 then
      (if isW (wantV (endsP (parse l a).2.1) l (parse l a).2.2).2 streamWd then streamV l (parse l a).2.1 (wantV (endsP (parse l a).2.1) l (parse l a).2.2).2.to
       else (0, (parse l a).2.1, ((wantV (endsP (parse l a).2.1) l (parse l a).2.2).2.to : Int)))
     else ((wantV (endsP (parse l a).2.1) l (parse l a).2.2).1, nul, 0))
  else ((parse l a).1, nul, 0)

def indV (l : List UInt8) (a : Int) : Int × Int × Int × Ob × Int :=
  if (headV l a).1 = 0 then
    (if (bodyV l (headV l a).2.2).1 = 0 then (0, (headV l a).2.1.n, (headV l a).2.1.f.tdiv 1000, (bodyV l (headV l a).2.2).2.1, (bodyV l (headV l a).2.2).2.2)
     else ((bodyV l (headV l a).2.2).1, 0, 0, nul, 0))
  else ((headV l a).1, 0, 0, nul, 0)

theorem want_bad {p : Tok → Bool} {l : List UInt8} {a : Int} (h : (wantV p l a).1 ≠ 0) : (wantV p l a).2 = zero := by
  unfold wantV at h ⊢
  repeat' split
  all_goals first | rfl | (exfalso; revert h; simp_all)
theorem want_ok {p : Tok → Bool} {l : List UInt8} {a : Int} (h : (wantV p l a).1 = 0) : (nextV l a).1 = 0 ∧ (wantV p l a).2 = (nextV l a).2 ∧ (nextV l a).2.kind ≠ 0 ∧ p (nextV l a).2 = true := by
  unfold wantV at h ⊢
  by_cases h1 : (nextV l a).1 = 0
  · rw [if_pos h1] at h ⊢
    by_cases h2 : (nextV l a).2.kind = 0
    · rw [if_pos h2] at h; exact absurd h (by decide)
    · rw [if_neg h2] at h ⊢
      cases h3 : p (nextV l a).2 with
      | false => rw [h3] at h; exact absurd h (by simp)
      | true => exact ⟨h1, by rw [if_pos rfl], h2, rfl⟩
  · rw [if_neg h1] at h; exact absurd h h1
theorem want_len {p : Tok → Bool} {l : List UInt8} {a : Int} (h : (wantV p l a).1 = 0) : 0 ≤ a ∧ a < ((wantV p l a).2.to : Int) ∧ (wantV p l a).2.to ≤ l.length := by
  obtain ⟨h1, h2, h3, -⟩ := want_ok h
  obtain ⟨b1, b2, b3, b4, b5, b6, b7⟩ := next_bd l a h1
  rw [h2]
  refine ⟨b1, ?_, b6⟩
  rcases b7 with ⟨k, _⟩ | ⟨_, _, k⟩
  · exact absurd k h3
  · omega
theorem lineN_le : ∀ l : List UInt8, lineN l ≤ l.length ∧ lineN l ≤ 2 := by
  intro l; unfold lineN; split <;> simp

end Go.Proofs.YtoablpaehhjchaaGreatDoor.Cx

namespace Go.Proofs.YtoablpaehhjchaaGreatDoor.Sx
open Lx Cx Rx
set_option linter.unusedSimpArgs false
set_option linter.unusedVariables false

structure Nm where
  n : Int
  g : Int
  o : Ob
def pdfT : List UInt8 := [37, 80, 68, 70, 45]
def prevK : ByteArray := ⟨#[80, 114, 101, 118]⟩
def wholeO (o : Ob) : Bool := o.k == 2 && o.n == 1 && decide (0 ≤ o.f)

def tableV (l : List UInt8) (met : List Int) (a : Int) : Int × List Xent × Ob :=
  if met.contains a then (7, [], nul) else if (l.length : Int) < a then (2, [], nul) else parseX l a

def tabsG (l : List UInt8) : Nat → List Int → List Xent → Ob → Int × List Xent
  | 0, _, _, _ => (7, [])
  | F + 1, met, acc, last =>
    if wholeO (get last prevK) then
      (if (tableV l met ((get last prevK).f.tdiv 1000)).1 = 0 then
        tabsG l F ((get last prevK).f.tdiv 1000 :: met) (acc ++ (tableV l met ((get last prevK).f.tdiv 1000)).2.1) (tableV l met ((get last prevK).f.tdiv 1000)).2.2
       else ((tableV l met ((get last prevK).f.tdiv 1000)).1, []))
    else (0, acc)

def tablesV (l : List UInt8) : Int × List Xent × Ob :=
  if (startX l).1 = 0 then
    (if (tableV l [] (startX l).2).1 = 0 then
      (if (tabsG l (l.length + 2) [(startX l).2] (tableV l [] (startX l).2).2.1 (tableV l [] (startX l).2).2.2).1 = 0 then
        (0, (tabsG l (l.length + 2) [(startX l).2] (tableV l [] (startX l).2).2.1 (tableV l [] (startX l).2).2.2).2, (tableV l [] (startX l).2).2.2)
       else ((tabsG l (l.length + 2) [(startX l).2] (tableV l [] (startX l).2).2.1 (tableV l [] (startX l).2).2.2).1, [], nul))
     else ((tableV l [] (startX l).2).1, [], nul))
  else ((startX l).1, [], nul)

def objV1 (l : List UInt8) (e : Xent) : Int × Nm :=
  if (l.length : Int) < e.off then (2, ⟨0, 0, nul⟩)
  else if (indV l e.off).1 = 0 then (if (indV l e.off).2.1 = e.n ∧ (indV l e.off).2.2.1 = e.gen then (0, ⟨(indV l e.off).2.1, (indV l e.off).2.2.1, (indV l e.off).2.2.2.1⟩) else (3, ⟨0, 0, nul⟩))
  else ((indV l e.off).1, ⟨0, 0, nul⟩)
def objsG (l : List UInt8) : List Xent → List Nm → Int × List Nm
  | [], acc => (0, acc)
  | e :: r, acc => if e.used then (if (objV1 l e).1 = 0 then objsG l r (acc ++ [(objV1 l e).2]) else ((objV1 l e).1, [])) else objsG l r acc

def OpenR (l : List UInt8) (X : Int × List Nm × Ob) : Prop :=
  if pdfT.isPrefixOf l then
    (if (tablesV l).1 = 0 then ∃ m, IsM (tablesV l).2.1 m ∧ X = (if (objsG l m []).1 = 0 then (0, (objsG l m []).2, (tablesV l).2.2) else ((objsG l m []).1, [], nul))
     else X = ((tablesV l).1, [], nul))
  else X = (3, [], nul)

theorem openR_one {l : List UInt8} {X Y : Int × List Nm × Ob} (h : OpenR l X) (k : OpenR l Y) : X = Y := by
  unfold OpenR at h k
  split at h
  · split at h
    · rename_i h1 h2
      rw [if_pos h1, if_pos h2] at k
      obtain ⟨m, hm, rfl⟩ := h
      obtain ⟨m', hm', rfl⟩ := k
      rw [isM_one hm hm']
    · rename_i h1 h2
      rw [if_pos h1, if_neg h2] at k; rw [h, k]
  · rename_i h1
    rw [if_neg h1] at k; rw [h, k]

theorem table_met {l : List UInt8} {met : List Int} {a : Int} (h : (tableV l met a).1 = 0) : a ∉ met ∧ a ≤ l.length ∧ tableV l met a = parseX l a := by
  unfold tableV at h ⊢
  by_cases h1 : met.contains a = true
  · rw [if_pos h1] at h; exact absurd h (by decide)
  · rw [if_neg h1] at h ⊢
    by_cases h2 : (l.length : Int) < a
    · rw [if_pos h2] at h; exact absurd h (by decide)
    · rw [if_neg h2] at h ⊢
      exact ⟨by simpa using h1, by omega, rfl⟩
theorem secG_adv {l : List UInt8} : ∀ (n : Nat) (first : Int) (a : Nat) (acc : List Xent), (secG l n first a acc).1 = 0 → a + n ≤ (secG l n first a acc).2.2
  | 0, _, a, acc, _ => Nat.le_refl _
  | n + 1, first, a, acc, h => by
    rw [secG] at h ⊢
    by_cases h1 : (entX l a first).1 = 0
    · rw [if_pos h1] at h ⊢
      obtain ⟨-, e1, e2⟩ := entX_ok h1
      have := secG_adv n (first + 1) _ _ h
      omega
    · rw [if_neg h1] at h; exact absurd h h1
theorem secX_adv {l : List UInt8} {first : Int} {a : Nat} (h : (secX l first a).1 = 0) : (secX l first a).2.1.length + a ≤ (secX l first a).2.2 := by
  unfold secX at h ⊢
  by_cases h1 : (wholeX l a).1 = 0
  · rw [if_pos h1] at h ⊢
    obtain ⟨w0, w1, w2, w3, w4⟩ := wholeX_ok h1
    by_cases h2 : 0 < (wholeX l a).2.1 ∧ 4096 < first + (wholeX l a).2.1
    · rw [if_pos h2] at h; exact absurd h (by decide)
    · rw [if_neg h2] at h ⊢
      have g1 := secG_adv _ _ _ _ h
      have g2 := secG_ok _ _ _ _ h w2
      simp only [List.length_nil] at g2
      omega
  · rw [if_neg h1] at h; exact absurd h h1
theorem entsG_adv {l : List UInt8} : ∀ (F : Nat) (a : Nat) (acc : List Xent), (entsG l F a acc).1 = 0 → (entsG l F a acc).2.1.length + a ≤ acc.length + (entsG l F a acc).2.2 ∧ (entsG l F a acc).2.2 ≤ l.length
  | 0, _, _, h => by rw [entsG] at h; exact absurd h (by decide)
  | F + 1, a, acc, h => by
    rw [entsG] at h ⊢
    by_cases h1 : (tokX l a).1 = 0
    · rw [if_pos h1] at h ⊢
      obtain ⟨-, -, -, t4, t5, t6⟩ := tokX_ok h1
      by_cases h2 : isWd (tokX l a).2 trailT = true
      · rw [if_pos h2]; simp only []; omega
      · rw [if_neg h2] at h ⊢
        by_cases h3 : isWh (tokX l a).2 = true
        · rw [if_pos h3] at h ⊢
          by_cases h4 : (secX l ((tokX l a).2.f.tdiv 1000) (tokX l a).2.to).1 = 0
          · rw [if_pos h4] at h ⊢
            have g := entsG_adv F _ _ h
            have s := secX_adv h4
            rw [List.length_append] at g
            omega
          · rw [if_neg h4] at h; exact absurd h h4
        · rw [if_neg h3] at h; exact absurd h (by decide)
    · rw [if_neg h1] at h; exact absurd h h1
theorem ents_len {l : List UInt8} {a : Int} (h : (entsX l a).1 = 0) : (entsX l a).2.1.length ≤ l.length := by
  unfold entsX at h ⊢
  by_cases h1 : (tokX l a).1 = 0
  · rw [if_pos h1] at h ⊢
    by_cases h2 : isWd (tokX l a).2 [120, 114, 101, 102] = true
    · rw [if_pos h2] at h ⊢
      have := entsG_adv _ _ _ h
      simp only [List.length_nil] at this
      omega
    · rw [if_neg h2] at h; exact absurd h (by decide)
  · rw [if_neg h1] at h; exact absurd h h1
theorem parse_len (l : List UInt8) (a : Int) : (parseX l a).2.1.length ≤ l.length := by
  unfold parseX
  by_cases h1 : (entsX l a).1 = 0
  · rw [if_pos h1]
    split
    · split
      · exact ents_len h1
      · exact Nat.zero_le _
    · exact Nat.zero_le _
  · rw [if_neg h1]; exact Nat.zero_le _
theorem table_len (l : List UInt8) (met : List Int) (a : Int) : (tableV l met a).2.1.length ≤ l.length := by
  unfold tableV
  split
  · exact Nat.zero_le _
  · split
    · exact Nat.zero_le _
    · exact parse_len l a
theorem nodup_bd (n : Nat) (m : List Int) (hm : m.Nodup) (hb : ∀ a ∈ m, 0 ≤ a ∧ a ≤ n) : m.length ≤ n + 1 := by
  have := nodup_le m ((List.range (n + 1)).map Int.ofNat) hm (fun x hx => by
    have := hb x hx
    exact List.mem_map.2 ⟨x.toNat, List.mem_range.2 (by omega), by show ((x.toNat : Nat) : Int) = x; omega⟩)
  rw [List.length_map, List.length_range] at this
  exact this

end Go.Proofs.YtoablpaehhjchaaGreatDoor.Sx

namespace Go.Proofs.YtoablpaehhjchaaGreatDoor.Sx
open Lx Cx Rx
set_option linter.unusedSimpArgs false
set_option linter.unusedVariables false

def findV : List Nm → Int → Ob
  | [], _ => nul
  | x :: r, n => if x.n = n then x.o else findV r n

def idxN (p : Nm → Bool) (l : List Nm) : Int := if l.findIdx p < l.length then (l.findIdx p : Int) else -1

def eqN (n : Int) (x : Nm) : Bool := x.n == n
def gtN (n : Int) (x : Nm) : Bool := decide (n < x.n)

def putL (l : List Nm) (n : Int) (o : Ob) : List Nm :=
  if h : l.findIdx (eqN n) < l.length then l.take (l.findIdx (eqN n)) ++ ⟨l[l.findIdx (eqN n)].n, l[l.findIdx (eqN n)].g, o⟩ :: l.drop (l.findIdx (eqN n) + 1)
  else l.take (l.findIdx (gtN n)) ++ ⟨n, 0, o⟩ :: l.drop (l.findIdx (gtN n))

def IsFree (l : List Nm) (n : Int) : Prop := 1 ≤ n ∧ (∀ x ∈ l, x.n ≠ n) ∧ ∀ m, 1 ≤ m → m < n → ∃ x ∈ l, x.n = m
theorem free_one {l : List Nm} {a b : Int} (h : IsFree l a) (k : IsFree l b) : a = b := by
  rcases Int.lt_trichotomy a b with c | c | c
  · obtain ⟨x, hx, e⟩ := k.2.2 a h.1 c
    exact absurd e (h.2.1 x hx)
  · exact c
  · obtain ⟨x, hx, e⟩ := h.2.2 b k.1 c
    exact absurd e (k.2.1 x hx)

theorem find_idx (l : List Nm) (n : Int) : findV l n = if h : l.findIdx (eqN n) < l.length then l[l.findIdx (eqN n)].o else nul := by
  induction l with
  | nil => rfl
  | cons x r ih =>
    rw [findV]
    by_cases h : x.n = n
    · have e : eqN n x = true := by unfold eqN; simpa using h
      have z : (x :: r).findIdx (eqN n) = 0 := by rw [List.findIdx_cons, e]; rfl
      rw [if_pos h, dif_pos (by rw [z]; simp)]
      simp only [z, List.getElem_cons_zero]
    · have e : eqN n x = false := by unfold eqN; simpa using h
      have z : (x :: r).findIdx (eqN n) = r.findIdx (eqN n) + 1 := by rw [List.findIdx_cons, e]; rfl
      rw [if_neg h, ih]
      by_cases c : r.findIdx (eqN n) < r.length
      · rw [dif_pos c, dif_pos (by rw [z]; simpa using c)]
        simp only [z, List.getElem_cons_succ]
      · rw [dif_neg c, dif_neg (by rw [z]; simpa using c)]
theorem find_app (a b : List Nm) (n : Int) : findV (a ++ b) n = if (∀ x ∈ a, x.n ≠ n) then findV b n else findV a n := by
  induction a with
  | nil => simp
  | cons x r ih =>
    rw [List.cons_append, findV, ih]
    by_cases h : x.n = n
    · rw [if_pos h, if_neg (fun k => k x List.mem_cons_self h), findV, if_pos h]
    · rw [if_neg h, findV, if_neg h]
      by_cases c : ∀ y ∈ r, y.n ≠ n
      · rw [if_pos c, if_pos (fun y hy => by
          rcases List.mem_cons.1 hy with rfl | hy
          · exact h
          · exact c y hy)]
      · rw [if_neg c, if_neg (fun k => c (fun y hy => k y (List.mem_cons_of_mem _ hy)))]
theorem before_idx {p : Nm → Bool} {l : List Nm} {x : Nm} (hx : x ∈ l.take (l.findIdx p)) : p x = false := by
  obtain ⟨i, hi, rfl⟩ := List.mem_iff_getElem.1 hx
  rw [List.length_take] at hi
  rw [List.getElem_take]
  have := List.not_of_lt_findIdx (p := p) (xs := l) (i := i) (by omega)
  simpa using this
theorem idx_hit {p : Nm → Bool} {l : List Nm} (h : l.findIdx p < l.length) : p l[l.findIdx p] = true := List.findIdx_getElem (w := h)
theorem eqN_iff {n : Int} {x : Nm} : eqN n x = true ↔ x.n = n := by unfold eqN; exact beq_iff_eq
theorem eqN_no {n : Int} {x : Nm} : eqN n x = false ↔ x.n ≠ n := by unfold eqN; exact beq_eq_false_iff_ne
theorem idx_none {p : Nm → Bool} {l : List Nm} (h : ¬ l.findIdx p < l.length) : ∀ x ∈ l, p x = false := by
  intro x hx
  have e : l.take (l.findIdx p) = l := List.take_of_length_le (by omega)
  exact before_idx (by rw [e]; exact hx)
theorem put_len (l : List Nm) (n : Int) (o : Ob) : (putL l n o).length ≤ l.length + 1 ∧ l.length ≤ (putL l n o).length := by
  unfold putL
  have h1 := List.findIdx_le_length (p := gtN n) (xs := l)
  split
  · simp only [List.length_append, List.length_take, List.length_cons, List.length_drop]; omega
  · simp only [List.length_append, List.length_take, List.length_cons, List.length_drop]; omega

theorem put_same (l : List Nm) (n : Int) (o : Ob) : findV (putL l n o) n = o := by
  unfold putL
  split
  · rename_i h
    rw [find_app, if_pos, findV, if_pos]
    · exact eqN_iff.1 (idx_hit h)
    · intro x hx; exact eqN_no.1 (before_idx hx)
  · rename_i h
    rw [find_app, if_pos, findV, if_pos rfl]
    intro x hx
    exact eqN_no.1 (idx_none h x (List.mem_of_mem_take hx))

theorem put_other (l : List Nm) (n m : Int) (o : Ob) (hm : m ≠ n) : findV (putL l n o) m = findV l m := by
  unfold putL
  split
  · rename_i h
    have hit : l[l.findIdx (eqN n)].n = n := eqN_iff.1 (idx_hit h)
    conv => rhs; rw [← List.take_append_drop (l.findIdx (eqN n)) l, List.drop_eq_getElem_cons h]
    rw [find_app, find_app]
    simp only [findV]
    have hne : ¬ l[l.findIdx (eqN n)].n = m := by rw [hit]; exact hm.symm
    rw [if_neg hne, if_neg hne]
  · conv => rhs; rw [← List.take_append_drop (l.findIdx (gtN n)) l]
    rw [find_app, find_app]
    simp only [findV]
    rw [if_neg (show ¬ n = m from fun e => hm e.symm)]

def RiseN (l : List Nm) : Prop := l.Pairwise (fun a b => a.n < b.n)
theorem rise_adj {l : List Nm} (h : ∀ i (h0 : 0 < i) (hi : i < l.length), (l[i - 1]'(by omega)).n < l[i].n) : RiseN l := by
  induction l with
  | nil => exact List.Pairwise.nil
  | cons x r ih =>
    have hr : RiseN r := ih (fun i h0 hi => by
      have := h (i + 1) (by omega) (by simpa using hi)
      obtain ⟨j, rfl⟩ : ∃ j, i = j + 1 := ⟨i - 1, by omega⟩
      simpa using this)
    refine List.pairwise_cons.2 ⟨fun y hy => ?_, hr⟩
    cases r with
    | nil => cases hy
    | cons z r =>
      have h1 := h 1 (by omega) (by simp)
      simp only [Nat.sub_self, List.getElem_cons_zero, List.getElem_cons_succ] at h1
      rcases List.mem_cons.1 hy with rfl | hy
      · exact h1
      · have := (List.pairwise_cons.1 hr).1 y hy; omega
theorem rise_at {l : List Nm} (h : RiseN l) (i : Nat) (h0 : 0 < i) (hi : i < l.length) : (l[i - 1]'(by omega)).n < l[i].n :=
  List.pairwise_iff_getElem.1 h (i - 1) i (by omega) hi (by omega)
theorem put_rise {l : List Nm} (n : Int) (o : Ob) (h : RiseN l) : RiseN (putL l n o) := by
  have hp := fun k => List.pairwise_append.1 (show (l.take k ++ l.drop k).Pairwise (fun a b => a.n < b.n) by rw [List.take_append_drop]; exact h)
  unfold putL
  split
  · rename_i hi
    obtain ⟨p1, p2, p3⟩ := hp (l.findIdx (eqN n))
    rw [List.drop_eq_getElem_cons hi] at p2 p3
    obtain ⟨q1, q2⟩ := List.pairwise_cons.1 p2
    refine List.pairwise_append.2 ⟨p1, List.pairwise_cons.2 ⟨fun y hy => q1 y hy, q2⟩, fun a ha b hb => ?_⟩
    rcases List.mem_cons.1 hb with rfl | hb
    · exact p3 a ha l[l.findIdx (eqN n)] List.mem_cons_self
    · exact p3 a ha b (List.mem_cons_of_mem _ hb)
  · rename_i hi
    obtain ⟨p1, p2, p3⟩ := hp (l.findIdx (gtN n))
    have hne := idx_none hi
    refine List.pairwise_append.2 ⟨p1, List.pairwise_cons.2 ⟨fun y hy => ?_, p2⟩, fun a ha b hb => ?_⟩
    · by_cases c : l.findIdx (gtN n) < l.length
      · rw [List.drop_eq_getElem_cons c] at p2 hy
        have hit : n < l[l.findIdx (gtN n)].n := of_decide_eq_true (show decide (n < l[l.findIdx (gtN n)].n) = true from idx_hit c)
        rcases List.mem_cons.1 hy with rfl | hy
        · exact hit
        · have := (List.pairwise_cons.1 p2).1 y hy; simp only []; omega
      · rw [List.drop_of_length_le (by omega)] at hy; cases hy
    · rcases List.mem_cons.1 hb with rfl | hb
      · have h1 := before_idx ha
        have h2 := hne a (List.mem_of_mem_take ha)
        unfold gtN at h1; unfold eqN at h2
        simp at h1 h2
        simp only []; omega
      · exact p3 a ha b hb

end Go.Proofs.YtoablpaehhjchaaGreatDoor.Sx

namespace Go.Proofs.YtoablpaehhjchaaGreatDoor.Sx
open Lx Cx Rx
set_option linter.unusedSimpArgs false
set_option linter.unusedVariables false

def takenF (l : List Nm) (j i : Nat) : Bool := decide (0 < i) && (l.take j).any (fun x => x.n == (i : Int))
theorem taken_zero (l : List Nm) (i : Nat) : takenF l 0 i = false := by simp [takenF]
theorem taken_succ {l : List Nm} {j : Nat} (h : j < l.length) (i : Nat) : takenF l (j + 1) i = (takenF l j i || (decide (0 < i) && l[j].n == (i : Int))) := by
  unfold takenF
  rw [List.take_succ_eq_append_getElem h, List.any_append]
  cases decide (0 < i) <;> simp
theorem taken_in {l : List Nm} {j : Nat} (h : j < l.length) {z : Nat} (hz : l[j].n = (z : Int)) (h0 : 0 < z) (i : Nat) : (if i = z then true else takenF l j i) = takenF l (j + 1) i := by
  rw [taken_succ h, hz]
  by_cases e : i = z
  · subst e; rw [if_pos rfl]; simp [h0]
  · rw [if_neg e]
    have : ((z : Int) == (i : Int)) = false := by rw [beq_eq_false_iff_ne]; omega
    rw [this]; simp
theorem taken_out {l : List Nm} {j L : Nat} (h : j < l.length) (hz : ¬ (0 < l[j].n ∧ l[j].n < (L : Int))) (i : Nat) (hi : i < L) : takenF l (j + 1) i = takenF l j i := by
  rw [taken_succ h]
  by_cases h0 : 0 < i
  · have : (l[j].n == (i : Int)) = false := by
      simp only [beq_eq_false_iff_ne, ne_eq]
      intro e
      exact hz (by omega)
    rw [this]; simp
  · have : decide (0 < i) = false := decide_eq_false h0
    rw [this]; simp
theorem taken_iff {l : List Nm} {i : Nat} (h0 : 0 < i) : takenF l l.length i = true ↔ ∃ x ∈ l, x.n = (i : Int) := by
  unfold takenF
  rw [List.take_length, decide_eq_true h0, Bool.true_and, List.any_eq_true]
  constructor
  · rintro ⟨x, hx, e⟩; exact ⟨x, hx, by simpa using e⟩
  · rintro ⟨x, hx, e⟩; exact ⟨x, hx, by simpa using e⟩
theorem sub_len : ∀ (S T : List Int), S.Nodup → (∀ x ∈ S, x ∈ T) → S.length ≤ T.length
  | [], _, _, _ => Nat.zero_le _
  | x :: r, T, hn, hs => by
    obtain ⟨h1, h2⟩ := List.nodup_cons.1 hn
    have hx := hs x List.mem_cons_self
    have := sub_len r (T.erase x) h2 (fun y hy => (List.mem_erase_of_ne (fun e => h1 (by rw [← e]; exact hy))).2 (hs y (List.mem_cons_of_mem _ hy)))
    rw [List.length_erase_of_mem hx] at this
    have h3 : 0 < T.length := List.length_pos_of_mem hx
    rw [List.length_cons]; omega
theorem all_taken {l : List Nm} (h : ∀ m : Nat, 1 ≤ m → m < l.length + 1 → ∃ x ∈ l, x.n = (m : Int)) : ∀ x ∈ l, x.n ≠ ((l.length + 1 : Nat) : Int) := by
  intro x hx e
  have := sub_len ((List.range (l.length + 1)).map (fun i : Nat => ((i + 1 : Nat) : Int))) (l.map (·.n)) (by
    rw [List.nodup_iff_pairwise_ne, List.pairwise_map]
    exact List.Pairwise.imp (fun hab => by omega) (List.nodup_range (n := l.length + 1))) (fun y hy => by
    obtain ⟨i, hi, rfl⟩ := List.mem_map.1 hy
    have hi := List.mem_range.1 hi
    by_cases c : i = l.length
    · subst c; exact List.mem_map.2 ⟨x, hx, e⟩
    · obtain ⟨z, hz, ez⟩ := h (i + 1) (by omega) (by omega)
      exact List.mem_map.2 ⟨z, hz, ez⟩)
  rw [List.length_map, List.length_map, List.length_range] at this
  omega
theorem free_at {l : List Nm} {n : Nat} (h1 : 1 ≤ n) (h2 : n < l.length + 1) (ha : ∀ m, 1 ≤ m → m < n → takenF l l.length m = true) (hn : takenF l l.length n = false) : IsFree l n := by
  refine ⟨by omega, fun x hx e => ?_, fun m hm1 hm2 => ?_⟩
  · rw [(taken_iff (by omega)).2 ⟨x, hx, e⟩] at hn; cases hn
  · obtain ⟨x, hx, e⟩ := (taken_iff (i := m.toNat) (by omega)).1 (ha m.toNat (by omega) (by omega))
    exact ⟨x, hx, by omega⟩
theorem free_end {l : List Nm} (ha : ∀ m, 1 ≤ m → m < l.length + 1 → takenF l l.length m = true) : IsFree l ((l.length + 1 : Nat) : Int) := by
  refine ⟨by omega, all_taken fun m h1 h2 => (taken_iff (by omega)).1 (ha m h1 h2), fun m hm1 hm2 => ?_⟩
  obtain ⟨x, hx, e⟩ := (taken_iff (i := m.toNat) (by omega)).1 (ha m.toNat (by omega) (by omega))
  exact ⟨x, hx, by omega⟩

end Go.Proofs.YtoablpaehhjchaaGreatDoor.Sx

namespace Go.Proofs.YtoablpaehhjchaaGreatDoor.Sx
open Lx Cx Rx
set_option linter.unusedSimpArgs false
set_option linter.unusedVariables false

def awO : Ob := .mk 3 0 0 ⟨#[65]⟩ [] []
def awE : Xent := ⟨1, 9, 0, true⟩
def awH : List UInt8 := [37, 80, 68, 70, 45, 49, 46, 55, 10]
def awI : List UInt8 := [49, 32, 48, 32, 111, 98, 106, 10, 47, 65, 10, 101, 110, 100, 111, 98, 106, 10]
def awX : List UInt8 := [120, 114, 101, 102, 10, 49, 32, 49, 10, 48, 48, 48, 48, 48, 48, 48, 48, 48, 57, 32, 48, 48, 48, 48, 48, 32, 110, 32, 10]
def awT : List UInt8 := [116, 114, 97, 105, 108, 101, 114, 10, 60, 60, 62, 62, 10, 115, 116, 97, 114, 116, 120, 114, 101, 102, 10, 50, 55, 10, 37, 37, 69, 79, 70, 10]
def awF : List UInt8 := awH ++ awI ++ awX ++ awT
def awD : Ob := .mk 6 0 0 ⟨#[]⟩ [] []
theorem aw_obj : (Lib.itoa 1 ++ [32] ++ Lib.itoa 0 ++ [32, 111, 98, 106, 10]) ++ awO.text ++ [10, 101, 110, 100, 111, 98, 106, 10] = awI := by kernel_rfl
theorem aw_sane : awO.sane 0 = 0 := by kernel_rfl
theorem aw_xref : writeV [awE] = awX := by kernel_rfl
theorem aw_xrefE : writeE [awE] = 0 := by kernel_rfl
theorem aw_tables : tablesV awF = (0, [awE], awD) := by kernel_rfl
theorem aw_objs : objsG awF [awE] [] = (0, [⟨1, 0, awO⟩]) := by kernel_rfl
theorem aw_isM : IsM [awE] [awE] := by
  refine ⟨by unfold Rise; simp, fun x => ?_⟩
  rw [first_cons]
  have e0 : first ([] : List Xent) x.n = none := rfl
  rw [e0]
  constructor
  · intro h; have : x = awE := by simpa using h
    subst this; rfl
  · intro h
    split at h
    · simp [← Option.some.inj h]
    · cases h
theorem aw_open : OpenR awF (0, [⟨1, 0, awO⟩], awD) := by
  unfold OpenR
  have hp : pdfT.isPrefixOf awF = true := by kernel_rfl
  rw [if_pos hp, aw_tables, if_pos rfl]
  exact ⟨[awE], aw_isM, by rw [aw_objs, if_pos rfl]⟩

end Go.Proofs.YtoablpaehhjchaaGreatDoor.Sx
