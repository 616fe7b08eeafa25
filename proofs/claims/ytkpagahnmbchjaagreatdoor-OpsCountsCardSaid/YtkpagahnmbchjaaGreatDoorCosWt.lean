/-
  How much an object is: itself, its bytes, its keys and all that stands in it; how deep it is. What few reckons. Nothing of the program is named here.
-/
import Derived.Test.YtkpagahnmbchjaaGreatDoorLexM
namespace Go.Proofs.YtkpagahnmbchjaaGreatDoor.Cx

mutual
def Ob.wt : Ob → Nat
  | .mk _ _ _ s l d => 1 + s.size + wtL l + wtD d
def wtL : List Ob → Nat
  | [] => 0
  | x :: r => x.wt + wtL r
def wtD : List (ByteArray × Ob) → Nat
  | [] => 0
  | (key, x) :: r => key.size + x.wt + wtD r
end
theorem wt_eq (o : Ob) : o.wt = 1 + o.s.size + wtL o.l + wtD o.d := by
  obtain ⟨k, n, f, s, l, d⟩ := o
  rw [Ob.wt]; rfl
theorem wtD_cons (e : Entr) (r : List Entr) : wtD (e :: r) = e.1.size + e.2.wt + wtD r := by cases e; rw [wtD]
theorem wtL_cons (x : Ob) (r : List Ob) : wtL (x :: r) = x.wt + wtL r := by rw [wtL]
theorem wt_pos (o : Ob) : 1 ≤ o.wt := by rw [wt_eq]; omega
theorem wtL_len : ∀ l : List Ob, l.length ≤ wtL l
  | [] => Nat.zero_le _
  | x :: r => by
    have := wtL_len r
    have := wt_pos x
    rw [wtL_cons, List.length_cons]; omega
theorem wtD_len : ∀ l : List Entr, l.length ≤ wtD l
  | [] => Nat.zero_le _
  | x :: r => by
    have := wtD_len r
    have := wt_pos x.2
    rw [wtD_cons, List.length_cons]; omega
theorem wtL_mem {l : List Ob} {x : Ob} (h : x ∈ l) : x.wt ≤ wtL l := by
  induction l with
  | nil => simp at h
  | cons y r ih =>
    rw [wtL_cons]
    rcases List.mem_cons.1 h with rfl | h
    · omega
    · have := ih h; omega
theorem wtD_mem {l : List Entr} {x : Entr} (h : x ∈ l) : x.1.size + x.2.wt ≤ wtD l := by
  induction l with
  | nil => simp at h
  | cons y r ih =>
    rw [wtD_cons]
    rcases List.mem_cons.1 h with rfl | h
    · omega
    · have := ih h; omega
theorem wt_l {o x : Ob} (h : x ∈ o.l) : x.wt < o.wt := by
  have := wtL_mem h
  rw [wt_eq o]; omega
theorem wt_d {o : Ob} {e : Entr} (h : e ∈ o.d) : e.1.size + e.2.wt < o.wt := by
  have := wtD_mem h
  rw [wt_eq o]; omega
theorem wt_len (o : Ob) : o.l.length < o.wt ∧ o.d.length < o.wt ∧ o.s.size < o.wt := by
  have h1 := wtL_len o.l
  have h2 := wtD_len o.d
  rw [wt_eq o]; omega
theorem wtL_append : ∀ a b : List Ob, wtL (a ++ b) = wtL a + wtL b
  | [], b => by rw [List.nil_append, wtL, Nat.zero_add]
  | x :: a, b => by rw [List.cons_append, wtL, wtL, wtL_append a b]; omega
theorem wtD_append : ∀ a b : List Entr, wtD (a ++ b) = wtD a + wtD b
  | [], b => by rw [List.nil_append, wtD, Nat.zero_add]
  | x :: a, b => by rw [List.cons_append, wtD_cons, wtD_cons, wtD_append a b]; omega
theorem wtL_take_succ (l : List Ob) (i : Nat) (h : i < l.length) : wtL (l.take (i + 1)) = wtL (l.take i) + l[i].wt := by
  rw [List.take_succ_eq_append_getElem h, wtL_append, wtL_cons, wtL]; omega
theorem wtD_take_succ (l : List Entr) (i : Nat) (h : i < l.length) : wtD (l.take (i + 1)) = wtD (l.take i) + (l[i].1.size + l[i].2.wt) := by
  rw [List.take_succ_eq_append_getElem h, wtD_append, wtD_cons, wtD]; omega

mutual
/-- What few reckons: how many of so many are left; less than 0: too much, or too deep. -/
def few : Ob → Int → Nat → Int
  | .mk _ _ _ s l d, left, dep => if 200 < dep then -1 else fewD d (fewL l (left - 1 - s.size) dep) dep
def fewL : List Ob → Int → Nat → Int
  | [], left, _ => left
  | x :: r, left, dep => if 0 ≤ left then fewL r (few x left (dep + 1)) dep else left
def fewD : List (ByteArray × Ob) → Int → Nat → Int
  | [], left, _ => left
  | (key, x) :: r, left, dep => if 0 ≤ left then fewD r (few x (left - key.size) (dep + 1)) dep else left
end
theorem few_eq (o : Ob) (left : Int) (dep : Nat) : few o left dep = if 200 < dep then -1 else fewD o.d (fewL o.l (left - 1 - o.s.size) dep) dep := by
  obtain ⟨k, n, f, s, l, d⟩ := o
  rw [few]; rfl
theorem fewL_cons (x : Ob) (r : List Ob) (left : Int) (dep : Nat) : fewL (x :: r) left dep = if 0 ≤ left then fewL r (few x left (dep + 1)) dep else left := by rw [fewL]
theorem fewD_cons (e : Entr) (r : List Entr) (left : Int) (dep : Nat) : fewD (e :: r) left dep = if 0 ≤ left then fewD r (few e.2 (left - e.1.size) (dep + 1)) dep else left := by cases e; rw [fewD]
theorem fewL_neg (l : List Ob) (left : Int) (dep : Nat) (h : left < 0) : fewL l left dep = left := by
  cases l with
  | nil => rw [fewL]
  | cons x r => rw [fewL_cons, if_neg (by omega)]
theorem fewD_neg (l : List Entr) (left : Int) (dep : Nat) (h : left < 0) : fewD l left dep = left := by
  cases l with
  | nil => rw [fewD]
  | cons x r => rw [fewD_cons, if_neg (by omega)]

mutual
/-- Where few says that something is left, it is what is not reckoned yet. -/
theorem few_some : ∀ (o : Ob) (left : Int) (dep : Nat), 0 ≤ few o left dep → few o left dep = left - o.wt
  | .mk k n f s l d, left, dep, h => by
    rw [few] at h ⊢
    by_cases hd : 200 < dep
    · rw [if_pos hd] at h; omega
    · rw [if_neg hd] at h ⊢
      have h1 : 0 ≤ fewL l (left - 1 - s.size) dep := by
        rcases Int.lt_or_le (fewL l (left - 1 - s.size) dep) 0 with hn | hn
        · rw [fewD_neg _ _ _ hn] at h; omega
        · exact hn
      rw [fewD_some d _ dep h, fewL_some l _ dep h1, Ob.wt]; omega
theorem fewL_some : ∀ (l : List Ob) (left : Int) (dep : Nat), 0 ≤ fewL l left dep → fewL l left dep = left - wtL l
  | [], left, dep, _ => by rw [fewL, wtL]; omega
  | x :: r, left, dep, h => by
    rw [fewL] at h ⊢
    by_cases h0 : 0 ≤ left
    · rw [if_pos h0] at h ⊢
      have h1 : 0 ≤ few x left (dep + 1) := by
        rcases Int.lt_or_le (few x left (dep + 1)) 0 with hn | hn
        · rw [fewL_neg _ _ _ hn] at h; omega
        · exact hn
      rw [fewL_some r _ dep h, few_some x _ _ h1, wtL]; omega
    · rw [if_neg h0] at h; omega
theorem fewD_some : ∀ (l : List (ByteArray × Ob)) (left : Int) (dep : Nat), 0 ≤ fewD l left dep → fewD l left dep = left - wtD l
  | [], left, dep, _ => by rw [fewD, wtD]; omega
  | (key, x) :: r, left, dep, h => by
    rw [fewD] at h ⊢
    by_cases h0 : 0 ≤ left
    · rw [if_pos h0] at h ⊢
      have h1 : 0 ≤ few x (left - key.size) (dep + 1) := by
        rcases Int.lt_or_le (few x (left - key.size) (dep + 1)) 0 with hn | hn
        · rw [fewD_neg _ _ _ hn] at h; omega
        · exact hn
      rw [fewD_some r _ dep h, few_some x _ _ h1, wtD]; omega
    · rw [if_neg h0] at h; omega
end

theorem few_le (o : Ob) (left : Int) (dep : Nat) (h : 0 ≤ few o left dep) : (o.wt : Int) ≤ left := by
  have := few_some o left dep h; omega

/-- All texts of an object, and lists, are no longer than can be. -/
inductive Ob.Fits (M : Nat) : Ob → Prop
  | mk (k n f : Int) (s : ByteArray) (l : List Ob) (d : List (ByteArray × Ob)) (hs : s.size ≤ M) (hl : l.length ≤ M) (hd : d.length ≤ M) (hL : ∀ x ∈ l, Ob.Fits M x) (hK : ∀ e ∈ d, e.1.size ≤ M) (hD : ∀ e ∈ d, Ob.Fits M e.2) : Ob.Fits M (.mk k n f s l d)
theorem Ob.Fits.s {M : Nat} {o : Ob} (h : Ob.Fits M o) : o.s.size ≤ M ∧ o.l.length ≤ M ∧ o.d.length ≤ M := by cases h with | mk k n f s l d hs hl hd _ _ _ => exact ⟨hs, hl, hd⟩
theorem Ob.Fits.l {M : Nat} {o x : Ob} (h : Ob.Fits M o) (hx : x ∈ o.l) : Ob.Fits M x := by cases h with | mk k n f s l d hs hl hd hL _ _ => exact hL x hx
theorem Ob.Fits.d {M : Nat} {o : Ob} {e : Entr} (h : Ob.Fits M o) (he : e ∈ o.d) : e.1.size ≤ M ∧ Ob.Fits M e.2 := by cases h with | mk k n f s l d hs hl hd _ hK hD => exact ⟨hK e he, hD e he⟩

mutual
/-- What few answers is no less than this. -/
theorem few_lo (M : Nat) : ∀ (o : Ob) (left : Int) (dep : Nat), Ob.Fits M o → -1 - M ≤ left → -2 - 2 * (M : Int) ≤ few o left dep ∧ few o left dep ≤ max left 0
  | .mk k n f s l d, left, dep, h, hm => by
    rw [few]
    split
    · omega
    · have hs := h.s.1
      simp only [Ob.s] at hs
      have h1 := fewL_lo M l (left - 1 - s.size) dep (fun x hx => h.l hx) (by omega)
      have h2 := fewD_lo M d (fewL l (left - 1 - s.size) dep) dep (fun e he => h.d he) h1.1
      omega
theorem fewL_lo (M : Nat) : ∀ (l : List Ob) (left : Int) (dep : Nat), (∀ x ∈ l, Ob.Fits M x) → -2 - 2 * (M : Int) ≤ left → -2 - 2 * (M : Int) ≤ fewL l left dep ∧ fewL l left dep ≤ max left 0
  | [], left, dep, _, hm => by rw [fewL]; omega
  | x :: r, left, dep, h, hm => by
    rw [fewL]
    split
    · next h0 =>
      have h1 := few_lo M x left (dep + 1) (h x List.mem_cons_self) (by omega)
      have h2 := fewL_lo M r (few x left (dep + 1)) dep (fun y hy => h y (List.mem_cons_of_mem _ hy)) h1.1
      omega
    · omega
theorem fewD_lo (M : Nat) : ∀ (l : List (ByteArray × Ob)) (left : Int) (dep : Nat), (∀ e ∈ l, e.1.size ≤ M ∧ Ob.Fits M e.2) → -2 - 2 * (M : Int) ≤ left → -2 - 2 * (M : Int) ≤ fewD l left dep ∧ fewD l left dep ≤ max left 0
  | [], left, dep, _, hm => by rw [fewD]; omega
  | (key, x) :: r, left, dep, h, hm => by
    rw [fewD]
    split
    · next h0 =>
      have hk := h (key, x) List.mem_cons_self
      simp only [] at hk
      have h1 := few_lo M x (left - key.size) (dep + 1) hk.2 (by omega)
      have h2 := fewD_lo M r (few x (left - key.size) (dep + 1)) dep (fun y hy => h y (List.mem_cons_of_mem _ hy)) h1.1
      omega
    · omega
end

end Go.Proofs.YtkpagahnmbchjaaGreatDoor.Cx
