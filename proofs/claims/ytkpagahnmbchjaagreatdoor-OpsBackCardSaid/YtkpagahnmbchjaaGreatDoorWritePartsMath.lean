/-
  Two objects in an array, and in a dictionary: why they may not be written, and their text; how long a text may be.
-/
import Derived.Test.YtkpagahnmbchjaaGreatDoorWriteAwake
import Derived.Test.YtkpagahnmbchjaaGreatDoorWriteTextMath
namespace Go.Proofs.YtkpagahnmbchjaaGreatDoor
open Go.RowKit Cx
set_option linter.unusedSimpArgs false
set_option linter.unusedVariables false

theorem own_bools (s r m n : Bool) (dep : Nat) : (if !s || (false && decide (0 < dep)) then (1 : Int) else if !r then 2 else if m then 6 else if n && decide (64 ≤ dep) then 5 else 0) = if s = false then 1 else if r = false then 2 else if m = true then 6 else if n = true ∧ 64 ≤ dep then 5 else 0 := by
  cases s <;> cases r <;> cases m <;> cases n <;> simp
theorem own_not8 {o : Ob} (h8 : o.k ≠ 8) (dep : Nat) : own o dep = if o.sense = false then 1 else if o.inRange = false then 2 else if o.many = true then 6 else if o.nest = true ∧ 64 ≤ dep then 5 else 0 := by
  have e8 : (o.k == 8) = false := beq_eq_false_iff_ne.2 h8
  unfold own
  rw [e8]
  exact own_bools _ _ _ _ dep
theorem own_down {o : Ob} {dep : Nat} (h : own o (dep + 1) = 0) : own o dep = 0 ∧ o.k ≠ 8 := by
  by_cases h8 : o.k = 8
  · exfalso
    unfold own at h
    rw [h8] at h
    simp at h
  · refine ⟨?_, h8⟩
    rw [own_not8 h8] at h ⊢
    split at h
    · omega
    · rename_i h1
      split at h
      · omega
      · rename_i h2
        split at h
        · omega
        · rename_i h3
          rw [if_neg h1, if_neg h2, if_neg h3]
          split at h
          · omega
          · rename_i h4
            rw [if_neg (fun g => h4 ⟨g.1, by omega⟩)]
theorem own_up {o : Ob} {dep : Nat} (h : own o dep = 0) (h8 : o.k ≠ 8) : own o (dep + 1) = 0 ∨ own o (dep + 1) = 5 := by
  rw [own_not8 h8] at h ⊢
  split at h
  · omega
  · rename_i h1
    split at h
    · omega
    · rename_i h2
      split at h
      · omega
      · rename_i h3
        rw [if_neg h1, if_neg h2, if_neg h3]
        split
        · exact .inr rfl
        · exact .inl rfl
theorem own_k8 {o : Ob} {dep : Nat} (h : own o (dep + 1) = 0) : o.k ≠ 8 := (own_down h).2

theorem saneL_zero (dep : Nat) : ∀ l : List Ob, saneL l dep = 0 ↔ ∀ x ∈ l, x.sane dep = 0
  | [] => by simp [saneL_nil]
  | x :: r => by
    rw [saneL_cons]
    have ih := saneL_zero dep r
    by_cases h : x.sane dep = 0
    · rw [if_neg (fun g => g h), ih]; simp [h]
    · rw [if_pos h]; simp [h]
theorem saneE_zero (dep : Nat) : ∀ l : List Entr, saneE l dep = 0 ↔ ∀ x ∈ l, x.2.sane dep = 0
  | [] => by simp [saneE_nil]
  | x :: r => by
    rw [saneE_cons]
    have ih := saneE_zero dep r
    by_cases h : x.2.sane dep = 0
    · rw [if_neg (fun g => g h), ih]; simp [h]
    · rw [if_pos h]; simp [h]
theorem saneL_two (dep : Nat) : ∀ l : List Ob, (∀ x ∈ l, x.sane dep = 0 ∨ x.sane dep = 5) → saneL l dep = 0 ∨ saneL l dep = 5
  | [], _ => .inl (saneL_nil dep)
  | x :: r, h => by
    rw [saneL_cons]
    have hx := h x List.mem_cons_self
    by_cases h0 : x.sane dep = 0
    · rw [if_neg (fun g => g h0)]; exact saneL_two dep r fun y hy => h y (List.mem_cons_of_mem _ hy)
    · rw [if_pos h0]; exact hx
theorem saneE_two (dep : Nat) : ∀ l : List Entr, (∀ x ∈ l, x.2.sane dep = 0 ∨ x.2.sane dep = 5) → saneE l dep = 0 ∨ saneE l dep = 5
  | [], _ => .inl (saneE_nil dep)
  | x :: r, h => by
    rw [saneE_cons]
    have hx := h x List.mem_cons_self
    by_cases h0 : x.2.sane dep = 0
    · rw [if_neg (fun g => g h0)]; exact saneE_two dep r fun y hy => h y (List.mem_cons_of_mem _ hy)
    · rw [if_pos h0]; exact hx

theorem sane_own {o : Ob} {dep : Nat} (h : o.sane dep = 0) : own o dep = 0 := by
  rw [sane_eq] at h
  by_cases h0 : own o dep = 0
  · exact h0
  · rw [if_pos h0] at h; exact h

/-- What may stand in another may stand alone; and it is no Stream. -/
theorem sane_down : ∀ (N : Nat) (o : Ob), SizeOf.sizeOf o ≤ N → ∀ dep, o.sane (dep + 1) = 0 → o.sane dep = 0 ∧ o.k ≠ 8 := by
  intro N
  induction N with
  | zero => intro o h; cases o; simp at h
  | succ N ih =>
    intro o hN dep h
    have ho := sane_own h
    obtain ⟨h1, h8⟩ := own_down ho
    refine ⟨?_, h8⟩
    rw [sane_eq] at h ⊢
    rw [if_neg (fun g => g ho)] at h
    rw [if_neg (fun g => g h1)]
    by_cases h5 : o.k = 5
    · rw [if_pos h5] at h ⊢
      rw [saneL_zero] at h ⊢
      exact fun x hx => (ih x (by have := sizeOf_l hx; omega) _ (h x hx)).1
    · rw [if_neg h5] at h ⊢
      by_cases h6 : o.k = 6 ∨ o.k = 8
      · rw [if_pos h6] at h ⊢
        rw [saneE_zero] at h ⊢
        exact fun x hx => (ih x.2 (by have := sizeOf_d hx; omega) _ (h x hx)).1
      · rw [if_neg h6]

/-- What may stand alone, and is no Stream, may stand in another, but for the depth. -/
theorem sane_up : ∀ (N : Nat) (o : Ob), SizeOf.sizeOf o ≤ N → ∀ dep, o.sane dep = 0 → o.k ≠ 8 → o.sane (dep + 1) = 0 ∨ o.sane (dep + 1) = 5 := by
  intro N
  induction N with
  | zero => intro o h; cases o; simp at h
  | succ N ih =>
    intro o hN dep h h8
    have ho := sane_own h
    rw [sane_eq] at h
    rw [if_neg (fun g => g ho)] at h
    rw [sane_eq o (dep + 1)]
    rcases own_up ho h8 with e | e
    · rw [e, if_neg (fun g => g rfl)]
      by_cases h5 : o.k = 5
      · rw [if_pos h5] at h ⊢
        rw [saneL_zero] at h
        exact saneL_two _ _ fun x hx => ih x (by have := sizeOf_l hx; omega) _ (h x hx) (own_k8 (sane_own (h x hx)))
      · rw [if_neg h5] at h ⊢
        by_cases h6 : o.k = 6 ∨ o.k = 8
        · rw [if_pos h6] at h ⊢
          rw [saneE_zero] at h
          exact saneE_two _ _ fun x hx => ih x.2 (by have := sizeOf_d hx; omega) _ (h x hx) (own_k8 (sane_own (h x hx)))
        · rw [if_neg h6]; exact .inl rfl
    · rw [e, if_pos (by decide)]; exact .inr rfl

def twoA (a b : Ob) : Ob := .mk 5 0 0 ⟨#[]⟩ [a, b] []
def twoD (a b : Ob) : Ob := .mk 6 0 0 ⟨#[]⟩ [] [(⟨#[65]⟩, a), (⟨#[66]⟩, b)]
def twoG (a b : Ob) : Int := if a.sane 1 ≠ 0 then a.sane 1 else if b.sane 1 ≠ 0 then b.sane 1 else 0
theorem twoA_sane (a b : Ob) : (twoA a b).sane 0 = twoG a b := by
  have ho : own (twoA a b) 0 = 0 := rfl
  unfold twoA at ho ⊢
  rw [sane_mk, ho, if_neg (fun g => g rfl), if_pos rfl, saneL_cons, saneL_cons, saneL_nil]
  rfl
theorem twoD_sane (a b : Ob) (ha : a.k ≠ 0) (hb : b.k ≠ 0) : (twoD a b).sane 0 = twoG a b := by
  have hs : senseD [] [(⟨#[65]⟩, a), (⟨#[66]⟩, b)] = true := by
    have e1 : (a.k == 0) = false := beq_eq_false_iff_ne.2 ha
    have e2 : (b.k == 0) = false := beq_eq_false_iff_ne.2 hb
    have e3 : keq ⟨#[65]⟩ ⟨#[66]⟩ = false := keq_no (by intro h; have := congrArg (fun x : ByteArray => x.data.toList) h; simp at this)
    simp [senseD, hasK, e1, e2, e3]
  have ho : own (twoD a b) 0 = 0 := by
    have : own (twoD a b) 0 = if !senseD [] [(⟨#[65]⟩, a), (⟨#[66]⟩, b)] || false then 1 else 0 := rfl
    rw [this, hs]; rfl
  unfold twoD at ho ⊢
  rw [sane_mk, ho, if_neg (fun g => g rfl), if_neg (by decide), if_pos (.inl rfl), saneE_cons, saneE_cons, saneE_nil]
  rfl
theorem objE_zero {x : Ob} : objE x = 0 ↔ x.sane 0 = 0 ∧ x.k ≠ 8 := by
  unfold objE
  by_cases h : x.sane 0 = 0
  · rw [if_neg (fun g => g h)]
    by_cases h8 : x.k = 8
    · rw [if_pos h8]; simp [h8]
    · rw [if_neg h8]; simp [h8, h]
  · rw [if_pos h]; simp [h]
theorem twoA_E (a b : Ob) : objE (twoA a b) = twoG a b := by
  unfold objE
  rw [twoA_sane]
  by_cases h : twoG a b = 0
  · rw [if_neg (fun g => g h), if_neg (by show ¬ ((5 : Int) = 8); decide), h]
  · rw [if_pos h]
theorem twoD_E (a b : Ob) (ha : a.k ≠ 0) (hb : b.k ≠ 0) : objE (twoD a b) = twoG a b := by
  unfold objE
  rw [twoD_sane a b ha hb]
  by_cases h : twoG a b = 0
  · rw [if_neg (fun g => g h), if_neg (by show ¬ ((6 : Int) = 8); decide), h]
  · rw [if_pos h]
theorem twoG_bad {a b : Ob} (h : twoG a b ≠ 0) (h5 : twoG a b ≠ 5) (hE : objE a = 0) : objE b ≠ 0 := by
  intro hF
  obtain ⟨a0, a8⟩ := objE_zero.1 hE
  obtain ⟨b0, b8⟩ := objE_zero.1 hF
  have ha := sane_up _ a (Nat.le_refl _) 0 a0 a8
  have hb := sane_up _ b (Nat.le_refl _) 0 b0 b8
  unfold twoG at h h5
  rw [Nat.zero_add] at ha hb
  rcases ha with e | e <;> rcases hb with f | f <;> rw [e] at h h5 <;> simp [f] at h h5
theorem twoG_good {a b : Ob} (h : twoG a b = 0) : objE a = 0 ∧ objE b = 0 := by
  unfold twoG at h
  have ha : a.sane 1 = 0 := by
    by_cases e : a.sane 1 = 0
    · exact e
    · rw [if_pos e] at h; exact h
  rw [if_neg (fun g => g ha)] at h
  have hb : b.sane 1 = 0 := by
    by_cases e : b.sane 1 = 0
    · exact e
    · rw [if_pos e] at h; exact h
  exact ⟨objE_zero.2 (sane_down _ a (Nat.le_refl _) 0 ha), objE_zero.2 (sane_down _ b (Nat.le_refl _) 0 hb)⟩
theorem objT_good {x : Ob} (h : objE x = 0) : objT x = x.text := by
  obtain ⟨h0, h8⟩ := objE_zero.1 h
  unfold objT
  rw [if_neg (fun g => g h0), if_neg h8]
theorem twoA_T {a b : Ob} (h : twoG a b = 0) : objT (twoA a b) = 91 :: (objT a ++ [32] ++ objT b ++ [93]) := by
  obtain ⟨h1, h2⟩ := twoG_good h
  rw [objT_good (by rw [twoA_E]; exact h), objT_good h1, objT_good h2]
  unfold twoA
  rw [text_mk]
  simp [textL_cons, textL_nil]
theorem twoD_T {a b : Ob} (ha : a.k ≠ 0) (hb : b.k ≠ 0) (h : twoG a b = 0) : objT (twoD a b) = [60, 60, 47, 65, 32] ++ objT a ++ [32, 47, 66, 32] ++ objT b ++ [62, 62] := by
  obtain ⟨h1, h2⟩ := twoG_good h
  rw [objT_good (by rw [twoD_E a b ha hb]; exact h), objT_good h1, objT_good h2]
  unfold twoD
  rw [text_mk]
  have e1 : Lx.nameV [65] = [47, 65] := by kernel_rfl
  have e2 : Lx.nameV [66] = [47, 66] := by kernel_rfl
  simp [textD_cons, textD_nil, e1, e2]

/-- How long a text may be. -/
theorem itoa_le {n : Int} (h0 : -9223372036854775808 ≤ n) (h1 : n ≤ 9223372036854775807) : (Lib.itoa n).length ≤ 21 := by
  rcases Int.lt_or_le n 0 with h | h
  · have e : Lib.itoa n = 45 :: Lib.decDigits (-n).toNat := by unfold Lib.itoa; rw [if_pos h, show n.natAbs = (-n).toNat by omega]
    have := (Fx.itoa_len (n := -n) (by omega) (by omega)).2
    rw [Fx.itoa_pos (by omega)] at this
    rw [e, List.length_cons]
    omega
  · have := (Fx.itoa_len h (by omega)).2
    omega
theorem name_le (l : List UInt8) : (Lx.nameV l).length ≤ 4 * l.length + 1 := by
  have := (flat_le Lx.nameB (fun c => ⟨(nameB_pr c).2, nameB_len c⟩) l).2
  unfold Lx.nameV
  rw [List.length_cons]; omega
theorem quote_le (l : List UInt8) : (Lx.quoteV l).length ≤ 4 * l.length + 2 := by
  have := (flat_le Lx.quoteB (fun c => ⟨(quoteB_pr c).2, quoteB_len c⟩) l).2
  unfold Lx.quoteV
  simp only [List.length_cons, List.length_append, List.length_nil]
  omega

theorem textL_le : ∀ (l : List Ob), (∀ x ∈ l, x.text.length + 50 ≤ 200 * x.wt) → ∀ b, (textL b l).length ≤ 200 * wtL l
  | [], _, b => by rw [textL_nil]; simp
  | x :: r, h, b => by
    have h1 := h x List.mem_cons_self
    have h2 := textL_le r (fun y hy => h y (List.mem_cons_of_mem _ hy)) true
    rw [textL_cons, wtL_cons, List.length_append, List.length_append]
    have : (if b = true then [32] else ([] : List UInt8)).length ≤ 1 := by cases b <;> simp
    omega
theorem textD_le : ∀ (l : List Entr), (∀ x ∈ l, x.2.text.length + 50 ≤ 200 * x.2.wt) → ∀ b, (textD b l).length ≤ 200 * wtD l
  | [], _, b => by rw [textD_nil]; simp
  | x :: r, h, b => by
    have h1 := h x List.mem_cons_self
    have h2 := textD_le r (fun y hy => h y (List.mem_cons_of_mem _ hy)) true
    have h3 := name_le x.1.data.toList
    have h4 : x.1.data.toList.length = x.1.size := Array.length_toList
    rw [textD_cons, wtD_cons, List.length_append, List.length_append, List.length_append, List.length_append]
    have : (if b = true then [32] else ([] : List UInt8)).length ≤ 1 := by cases b <;> simp
    simp only [List.length_cons, List.length_nil]
    omega
theorem text_le : ∀ (N : Nat) (x : Ob), SizeOf.sizeOf x ≤ N → Ob.Ok x → x.text.length + 50 ≤ 200 * x.wt := by
  intro N
  induction N with
  | zero => intro x h; cases x; simp at h
  | succ N ih =>
    intro x hN hx
    cases hx with
    | mk k n f s l d h0 h1 hs hl hd hL hK hD =>
      have iL := textL_le l (fun x hx => ih x (by have := sizeOf_l (o := .mk k n f s l d) hx; omega) (hL x hx)) false
      have iD := textD_le d (fun x hx => ih x.2 (by have := sizeOf_d (o := .mk k n f s l d) hx; omega) (hD x hx)) false
      rw [wt_eq, text_mk]
      simp only [Ob.s, Ob.l, Ob.d]
      have q1 := name_le s.data.toList
      have q2 := quote_le s.data.toList
      have q3 : s.data.toList.length = s.size := Array.length_toList
      have q4 := printL_le f
      have q5 := itoa_le h0 h1
      have q6 : (numT n f).length ≤ 102 := by
        unfold numT
        rw [List.length_append]
        split <;> simp <;> omega
      have q7 : nullT.length = 4 := rfl
      have q8 : trueT.length = 4 := rfl
      have q9 : falseT.length = 5 := rfl
      by_cases e0 : k = 0
      · rw [if_pos e0]; omega
      rw [if_neg e0]
      by_cases e1 : k = 1
      · rw [if_pos e1]; split <;> omega
      rw [if_neg e1]
      by_cases e2 : k = 2
      · rw [if_pos e2]; omega
      rw [if_neg e2]
      by_cases e3 : k = 3
      · rw [if_pos e3]; omega
      rw [if_neg e3]
      by_cases e4 : k = 4
      · rw [if_pos e4]; omega
      rw [if_neg e4]
      by_cases e5 : k = 5
      · rw [if_pos e5]; simp only [List.length_append, List.length_cons, List.length_nil]; omega
      rw [if_neg e5]
      by_cases e6 : k = 6
      · rw [if_pos e6]; simp only [List.length_append, List.length_cons, List.length_nil]; omega
      rw [if_neg e6]
      by_cases e7 : k = 7
      · rw [if_pos e7]; simp only [List.length_append, List.length_cons, List.length_nil]; omega
      rw [if_neg e7]
      by_cases e8 : k = 8
      · rw [if_pos e8]; simp only [List.length_append, List.length_cons, List.length_nil]; omega
      rw [if_neg e8]; simp only [List.length_nil]; omega

end Go.Proofs.YtkpagahnmbchjaaGreatDoor
