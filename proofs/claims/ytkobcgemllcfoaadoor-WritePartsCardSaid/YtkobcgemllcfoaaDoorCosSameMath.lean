/-
  When two objects are the same. Nothing of the program is named here.
-/
import Derived.Test.YtkobcgemllcfoaaDoorCosOb
namespace Go.Proofs.YtkobcgemllcfoaaDoor.Cx

mutual
def Ob.same : Ob → Ob → Bool
  | .mk k n f s l d, b => k == b.k && f == b.f && keq s b.s && (n == b.n || k == 2) && sameL l b.l && (nkGo [] d == nkGo [] b.d && sameE [] d b.d)
def sameL : List Ob → List Ob → Bool
  | [], [] => true
  | x :: r, y :: q => x.same y && sameL r q
  | [], _ :: _ => false
  | _ :: _, [] => false
/-- Each entry that is the first one of its key has one that is the same. -/
def sameE : List (ByteArray × Ob) → List (ByteArray × Ob) → List (ByteArray × Ob) → Bool
  | _, [], _ => true
  | seen, (key, x) :: r, b => (hasK seen key || (hasK b key && x.same (getD b key))) && sameE (seen ++ [(key, x)]) r b
/-- How many keys there are. -/
def nkGo : List (ByteArray × Ob) → List (ByteArray × Ob) → Nat
  | _, [] => 0
  | seen, (key, x) :: r => (if hasK seen key then 0 else 1) + nkGo (seen ++ [(key, x)]) r
end

theorem same_mk (k n f : Int) (s : ByteArray) (l : List Ob) (d : List Entr) (b : Ob) : (Ob.mk k n f s l d).same b = (k == b.k && f == b.f && keq s b.s && (n == b.n || k == 2) && sameL l b.l && (nkGo [] d == nkGo [] b.d && sameE [] d b.d)) := by rw [Ob.same]
theorem same_eq (a b : Ob) : a.same b = (a.k == b.k && a.f == b.f && keq a.s b.s && (a.n == b.n || a.k == 2) && sameL a.l b.l && (nkGo [] a.d == nkGo [] b.d && sameE [] a.d b.d)) := by
  obtain ⟨k, n, f, s, l, d⟩ := a
  exact same_mk k n f s l d b
theorem sameE_cons (seen : List Entr) (e : Entr) (r b : List Entr) : sameE seen (e :: r) b = ((hasK seen e.1 || (hasK b e.1 && e.2.same (getD b e.1))) && sameE (seen ++ [e]) r b) := by cases e; rw [sameE]
theorem nkGo_cons (seen : List Entr) (e : Entr) (r : List Entr) : nkGo seen (e :: r) = (if hasK seen e.1 then 0 else 1) + nkGo (seen ++ [e]) r := by cases e; rw [nkGo]
theorem sameL_len : ∀ a b : List Ob, a.length ≠ b.length → sameL a b = false
  | [], [], h => absurd rfl h
  | x :: r, y :: q, h => by rw [sameL, sameL_len r q (by simpa using h), Bool.and_false]
  | [], _ :: _, _ => by rw [sameL]
  | _ :: _, [], _ => by rw [sameL]
theorem sameL_step (a b : List Ob) (i : Nat) (h1 : i < a.length) (h2 : i < b.length) : sameL (a.drop i) (b.drop i) = (a[i].same b[i] && sameL (a.drop (i + 1)) (b.drop (i + 1))) := by
  rw [List.drop_eq_getElem_cons h1, List.drop_eq_getElem_cons h2, sameL]

theorem hasK_append : ∀ (a b : List Entr) (key : ByteArray), hasK (a ++ b) key = (hasK a key || hasK b key)
  | [], b, key => by rw [List.nil_append, hasK, Bool.false_or]
  | e :: r, b, key => by rw [List.cons_append, hasK, hasK, hasK_append r b key, Bool.or_assoc]
theorem idxK_append_l : ∀ (a b : List Entr) (key : ByteArray), hasK a key = true → idxK (a ++ b) key = idxK a key
  | [], b, key, h => by rw [hasK] at h; cases h
  | e :: r, b, key, h => by
    rw [List.cons_append, idxK, idxK]
    rw [hasK] at h
    cases he : keq e.1 key
    · rw [he, Bool.false_or] at h
      rw [idxK_append_l r b key h]
    · simp
theorem idxK_append_r : ∀ (a b : List Entr) (key : ByteArray), hasK a key = false → idxK (a ++ b) key = a.length + idxK b key
  | [], b, key, h => by simp
  | e :: r, b, key, h => by
    rw [hasK, Bool.or_eq_false_iff] at h
    rw [List.cons_append, idxK, h.1, idxK_append_r r b key h.2, List.length_cons]
    simp; omega
theorem idxK_lt : ∀ (d : List Entr) (key : ByteArray), hasK d key = true → idxK d key < d.length
  | [], key, h => by rw [hasK] at h; cases h
  | e :: r, key, h => by
    rw [hasK] at h
    rw [idxK, List.length_cons]
    cases he : keq e.1 key
    · rw [he, Bool.false_or] at h
      have := idxK_lt r key h
      simp; omega
    · simp
theorem getD_idx : ∀ (d : List Entr) (key : ByteArray) (h : idxK d key < d.length), d[idxK d key].1 = key ∧ d[idxK d key].2 = getD d key
  | [], key, h => absurd h (Nat.not_lt_zero _)
  | e :: r, key, h => by
    cases he : keq e.1 key
    · have e1 : idxK (e :: r) key = idxK r key + 1 := by rw [idxK, he]; rfl
      have h' : idxK r key < r.length := by rw [e1, List.length_cons] at h; omega
      have ih := getD_idx r key h'
      have e2 : getD (e :: r) key = getD r key := by rw [getD, he]; rfl
      rw [e2]
      simp only [e1, List.getElem_cons_succ]
      exact ih
    · have e1 : idxK (e :: r) key = 0 := by rw [idxK, he]; rfl
      have e2 : getD (e :: r) key = e.2 := by rw [getD, he]; rfl
      rw [e2]
      simp only [e1, List.getElem_cons_zero]
      exact ⟨keq_iff.1 he, trivial⟩

/-- Where each key's first entry stands. -/
def fstJ (d : List Entr) (key : ByteArray) : Option Nat := if hasK d key then some (idxK d key) else none
theorem fstJ_nil : fstJ [] = fun _ => none := by funext k; rfl
theorem hasK_self (e : Entr) : hasK [e] e.1 = true := by rw [hasK, keq_self]; rfl
theorem fstJ_old {d : List Entr} {e : Entr} (h : hasK d e.1 = true) : fstJ (d ++ [e]) = fstJ d := by
  funext k
  unfold fstJ
  rw [hasK_append]
  cases hk : hasK d k
  · have hne : keq e.1 k = false := by
      cases he : keq e.1 k
      · rfl
      · rw [← keq_iff.1 he, h] at hk; cases hk
    rw [hasK, hne, hasK]; rfl
  · rw [idxK_append_l d [e] k hk]; simp
theorem fstJ_new {d : List Entr} {e : Entr} (h : hasK d e.1 = false) : fstJ (d ++ [e]) = fun k => if k = e.1 then some d.length else fstJ d k := by
  funext k
  unfold fstJ
  rw [hasK_append]
  by_cases hk : k = e.1
  · rw [if_pos hk, hk, h, hasK_self, idxK_append_r d [e] e.1 h, idxK, keq_self]; simp
  · rw [if_neg hk, hasK, keq_no (fun e' => hk e'.symm), hasK, Bool.or_false, Bool.or_false]
    cases hd : hasK d k
    · rfl
    · rw [idxK_append_l d [e] k hd]
theorem fstJ_some {d : List Entr} {key : ByteArray} {j : Nat} (h : fstJ d key = some j) : hasK d key = true ∧ j = idxK d key ∧ ∃ hj : j < d.length, d[j].2 = getD d key := by
  unfold fstJ at h
  cases hk : hasK d key
  · rw [hk] at h; cases h
  · rw [hk, if_pos rfl] at h
    injection h with h
    subst h
    exact ⟨rfl, rfl, idxK_lt d key hk, (getD_idx d key (idxK_lt d key hk)).2⟩
theorem fstJ_none {d : List Entr} {key : ByteArray} (h : fstJ d key = none) : hasK d key = false := by
  unfold fstJ at h
  cases hk : hasK d key
  · rfl
  · rw [hk] at h; cases h
theorem hasK_mem : ∀ {d : List Entr} {e : Entr}, e ∈ d → hasK d e.1 = true
  | [], _, h => absurd h List.not_mem_nil
  | x :: r, e, h => by
    rw [hasK]
    rcases List.mem_cons.1 h with rfl | h
    · rw [keq_self, Bool.true_or]
    · rw [hasK_mem h, Bool.or_true]
theorem hasK_at (d : List Entr) (i : Nat) (hi : i < d.length) : hasK d d[i].1 = true := hasK_mem (List.getElem_mem hi)
theorem fstJ_at (d : List Entr) (i : Nat) (hi : i < d.length) : fstJ d d[i].1 = some i ↔ hasK (d.take i) d[i].1 = false := by
  have hsp : d = d.take i ++ d[i] :: d.drop (i + 1) := by rw [← List.drop_eq_getElem_cons hi, List.take_append_drop]
  have hlen : (d.take i).length = i := by rw [List.length_take]; omega
  unfold fstJ
  rw [hasK_at d i hi, if_pos rfl]
  cases ht : hasK (d.take i) d[i].1
  · simp only [iff_true]
    have : idxK d d[i].1 = i := by
      conv => lhs; arg 1; rw [hsp]
      rw [idxK_append_r _ _ _ ht, hlen, idxK, keq_self]; simp
    rw [this]
  · simp only [Bool.true_eq_false, iff_false]
    intro e
    injection e with e
    have h1 : idxK d d[i].1 = idxK (d.take i) d[i].1 := by
      conv => lhs; arg 1; rw [hsp]
      rw [idxK_append_l _ _ _ ht]
    have h2 := idxK_lt _ _ ht
    rw [hlen] at h2
    omega
theorem nkGo_snoc (e : Entr) : ∀ (a seen : List Entr), nkGo seen (a ++ [e]) = nkGo seen a + (if hasK (seen ++ a) e.1 then 0 else 1)
  | [], seen => by rw [List.nil_append, nkGo_cons, nkGo, nkGo, List.append_nil]; omega
  | x :: r, seen => by
    rw [List.cons_append, nkGo_cons, nkGo_cons, nkGo_snoc e r (seen ++ [x]), List.append_assoc]
    simp only [List.cons_append, List.nil_append]; omega
theorem nkGo_le : ∀ (a seen : List Entr), nkGo seen a ≤ a.length
  | [], seen => by rw [nkGo]; exact Nat.zero_le _
  | x :: r, seen => by
    rw [nkGo_cons, List.length_cons]
    have := nkGo_le r (seen ++ [x])
    split <;> omega
theorem sameE_step (a b : List Entr) (i : Nat) (hi : i < a.length) : sameE (a.take i) (a.drop i) b = ((hasK (a.take i) a[i].1 || (hasK b a[i].1 && a[i].2.same (getD b a[i].1))) && sameE (a.take (i + 1)) (a.drop (i + 1)) b) := by
  rw [List.drop_eq_getElem_cons hi, sameE_cons, ← List.take_succ_eq_append_getElem hi]

end Go.Proofs.YtkobcgemllcfoaaDoor.Cx
