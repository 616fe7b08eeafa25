/-
  Plain texts behind the laws FixBack and FixWhole: a number's text, parsed, is the number.
-/
import Derived.Test.YtkobcgemllcfoaaDoorFixLawMath
namespace Go.Proofs.YtkobcgemllcfoaaDoor.Fx

theorem ofNat_toNat {k : Nat} (h : k < 10) : (UInt8.ofNat (48 + k)).toNat = 48 + k := by
  rw [UInt8.toNat_ofNat']; omega
theorem isDig_ofNat {k : Nat} (h : k < 10) : isDig (UInt8.ofNat (48 + k)) = true := by
  rw [isDig_iff, ofNat_toNat h]; omega

theorem allDig_append {a b : List UInt8} : allDig (a ++ b) = true ↔ allDig a = true ∧ allDig b = true := by
  unfold allDig; rw [List.all_append, Bool.and_eq_true]

theorem dec_all (u : Nat) : allDig (Lib.decDigits u) = true := by
  induction u using Nat.strongRecOn with
  | ind u ih =>
    rw [Lib.decDigits]
    split
    · rename_i h; rw [allDig_cons]; exact ⟨isDig_ofNat h, rfl⟩
    · exact allDig_snoc (ih _ (by omega)) (isDig_ofNat (by omega))
theorem dec_val (u : Nat) (h : u ≤ 21474836480) : grownAll 0 (Lib.decDigits u) = u := by
  induction u using Nat.strongRecOn with
  | ind u ih =>
    rw [Lib.decDigits]
    split
    · rename_i hu
      show grown 0 _ = _
      unfold grown
      rw [ofNat_toNat hu, if_neg (by omega)]
      omega
    · rw [grownAll_snoc, ih _ (by omega) (by omega), ofNat_toNat (by omega)]
      unfold grown
      rw [if_neg (by omega)]
      omega
theorem dec_ne (u : Nat) : Lib.decDigits u ≠ [] := by
  rw [Lib.decDigits]
  split <;> simp

theorem cut_nil : Lib.cut [] [46] = ([], [], false) := rfl
theorem cut_cons (c : UInt8) (l : List UInt8) : Lib.cut (c :: l) [46] = if c = 46 then ([], l, true) else (c :: (Lib.cut l [46]).1, (Lib.cut l [46]).2) := by
  by_cases h : c = 46
  · subst h
    rw [if_pos rfl]
    unfold Lib.cut Lib.index
    simp
  · rw [if_neg h]
    have hp : ([46] : List UInt8).isPrefixOf (c :: l) = false := by
      simp [List.isPrefixOf]; exact fun k => h k.symm
    have hi : Lib.index (c :: l) [46] = if Lib.index l [46] == -1 then -1 else Lib.index l [46] + 1 := by
      show (if ([46] : List UInt8).isPrefixOf (c :: l) then (0 : Int) else _) = _
      rw [hp]; rfl
    have hg := Lib.index_ge l [46]
    unfold Lib.cut
    rw [hi]
    by_cases hm : Lib.index l [46] = -1
    · rw [hm]; rfl
    · have e : (Lib.index l [46] == -1) = false := by rw [beq_eq_false_iff_ne]; exact hm
      rw [e, if_pos (show 0 ≤ Lib.index l [46] by omega)]
      simp only [Bool.false_eq_true, if_false]
      rw [if_pos (by omega), show (Lib.index l [46] + 1).toNat = (Lib.index l [46]).toNat + 1 by omega]
      simp

theorem wholeOf_cons (c : UInt8) (l : List UInt8) : wholeOf (c :: l) = if c = 46 then [] else c :: wholeOf l := by
  unfold wholeOf; rw [cut_cons]; split <;> rfl
theorem partOf_cons (c : UInt8) (l : List UInt8) : partOf (c :: l) = if c = 46 then l else partOf l := by
  unfold partOf; rw [cut_cons]; split <;> rfl
theorem dig_ne_point {c : UInt8} (h : isDig c = true) : c ≠ 46 := by
  rintro rfl; exact absurd h (by decide)

theorem cut_digits {l : List UInt8} (h : allDig l = true) : wholeOf l = l ∧ partOf l = [] := by
  induction l with
  | nil => exact ⟨rfl, rfl⟩
  | cons c r ih =>
    obtain ⟨hc, hr⟩ := allDig_cons.1 h
    rw [wholeOf_cons, partOf_cons, if_neg (dig_ne_point hc), if_neg (dig_ne_point hc), (ih hr).1, (ih hr).2]
    exact ⟨rfl, rfl⟩
theorem cut_point {l p : List UInt8} (h : allDig l = true) : wholeOf (l ++ 46 :: p) = l ∧ partOf (l ++ 46 :: p) = p := by
  induction l with
  | nil => rw [List.nil_append, wholeOf_cons, partOf_cons]; exact ⟨rfl, rfl⟩
  | cons c r ih =>
    obtain ⟨hc, hr⟩ := allDig_cons.1 h
    rw [List.cons_append, wholeOf_cons, partOf_cons, if_neg (dig_ne_point hc), if_neg (dig_ne_point hc), (ih hr).1, (ih hr).2]
    exact ⟨rfl, rfl⟩
theorem sign_digits {l r : List UInt8} (h : allDig l = true) (hn : l ≠ []) : signOf (l ++ r) = false ∧ behindSign (l ++ r) = l ++ r := by
  cases l with
  | nil => exact absurd rfl hn
  | cons c t =>
    have := isDig_iff.1 (allDig_cons.1 h).1
    exact sign_none (by omega) (by omega) _
theorem sign_dash (l : List UInt8) : signOf (45 :: l) = true ∧ behindSign (45 :: l) = l := sign_minus rfl l

theorem trim_split (l : List UInt8) : ∃ t, l = Lib.trimRightB l 48 ++ t ∧ ∀ c ∈ t, c = 48 := by
  refine ⟨(l.reverse.takeWhile (· == 48)).reverse, ?_, ?_⟩
  · unfold Lib.trimRightB
    rw [← List.reverse_append, List.takeWhile_append_dropWhile, List.reverse_reverse]
  · intro c hc
    have := List.mem_reverse.1 hc
    have h : ∀ (m : List UInt8), c ∈ m.takeWhile (· == 48) → c = 48 := by
      intro m
      induction m with
      | nil => intro h; simp at h
      | cons x m ih =>
        intro h
        rw [List.takeWhile_cons] at h
        split at h
        · rename_i hx
          rcases List.mem_cons.1 h with rfl | h
          · simpa using hx
          · exact ih h
        · simp at h
    exact h _ this
theorem dAt_trim (l : List UInt8) (i : Nat) : dAt (Lib.trimRightB l 48) i = dAt l i := by
  obtain ⟨t, h, ht⟩ := trim_split l
  generalize Lib.trimRightB l 48 = m at *
  subst h
  unfold dAt
  by_cases hi : i < m.length
  · rw [List.getElem?_append_left hi]
  · rw [List.getElem?_eq_none (by omega), List.getElem?_append_right (by omega)]
    cases hx : t[i - m.length]? with
    | none => rfl
    | some c => rw [ht c (List.mem_of_getElem? hx)]; rfl
theorem allDig_trim {l : List UInt8} (h : allDig l = true) : allDig (Lib.trimRightB l 48) = true := by
  obtain ⟨t, e, _⟩ := trim_split l
  rw [e] at h
  exact (allDig_append.1 h).1

theorem itoa_four {n : Int} (h0 : 0 ≤ n) (h1 : n ≤ 999) :
    Lib.itoa (1000 + n) = [49, UInt8.ofNat (48 + n.toNat / 100), UInt8.ofNat (48 + n.toNat / 10 % 10), UInt8.ofNat (48 + n.toNat % 10)] := by
  rw [itoa_pos (by omega), show (1000 + n).toNat = 1000 + n.toNat by omega]
  obtain ⟨k, rfl⟩ : ∃ k : Nat, n = k := ⟨n.toNat, by omega⟩
  rw [Int.toNat_natCast]
  rw [Lib.decDigits, dif_neg (by omega), Lib.decDigits, dif_neg (by omega), Lib.decDigits, dif_neg (by omega), Lib.decDigits, dif_pos (by omega)]
  rw [show (1000 + k) / 10 / 10 / 10 = 1 by omega, show (1000 + k) / 10 / 10 % 10 = k / 100 by omega, show (1000 + k) / 10 % 10 = k / 10 % 10 by omega, show (1000 + k) % 10 = k % 10 by omega]
  rfl
theorem trimT_dig {n : Int} (h0 : 0 ≤ n) (h1 : n ≤ 999) :
    allDig (trimT (Lib.itoa (1000 + n))) = true ∧ dAt (trimT (Lib.itoa (1000 + n))) 0 = 48 + n / 100 ∧ dAt (trimT (Lib.itoa (1000 + n))) 1 = 48 + n / 10 % 10 ∧ dAt (trimT (Lib.itoa (1000 + n))) 2 = 48 + n % 10 ∧ dAt (trimT (Lib.itoa (1000 + n))) 3 = 48 := by
  unfold trimT
  rw [itoa_four h0 h1]
  refine ⟨allDig_trim ?_, ?_, ?_, ?_, ?_⟩
  · rw [List.drop_succ_cons, List.drop_zero, allDig_cons, allDig_cons, allDig_cons]
    exact ⟨isDig_ofNat (by omega), isDig_ofNat (by omega), isDig_ofNat (by omega), rfl⟩
  · rw [dAt_trim]; show ((UInt8.ofNat _).toNat : Int) = _; rw [ofNat_toNat (by omega)]; omega
  · rw [dAt_trim]; show ((UInt8.ofNat _).toNat : Int) = _; rw [ofNat_toNat (by omega)]; omega
  · rw [dAt_trim]; show ((UInt8.ofNat _).toNat : Int) = _; rw [ofNat_toNat (by omega)]; omega
  · rw [dAt_trim]; rfl

theorem thou_val {whole part : List UInt8} {u a b c : Int} (hu : grownAll 0 whole = u) (h0 : 0 ≤ u) (h1 : u ≤ 2147483) (ha : dAt part 0 = 48 + a) (hb : dAt part 1 = 48 + b) (hc : dAt part 2 = 48 + c) (h3 : dAt part 3 = 48)
    (a0 : 0 ≤ a) (a1 : a ≤ 9) (b0 : 0 ≤ b) (b1 : b ≤ 9) : thou whole part = 1000 * u + 100 * a + 10 * b + c := by
  have e : thou3 whole part 3 = 1000 * u + 100 * a + 10 * b + c := by
    show grown (grown (grown (grownAll 0 whole) (dAt part 0)) (dAt part 1)) (dAt part 2) = _
    rw [hu, ha, hb, hc]
    unfold grown
    rw [if_neg (show ¬ 2147483648 < u by omega), if_neg (by omega), if_neg (by omega)]
    omega
  unfold thou
  rw [if_neg (by rw [h3]; omega), e]
theorem thou_none {whole : List UInt8} {u : Int} (hu : grownAll 0 whole = u) (h0 : 0 ≤ u) (h1 : u ≤ 2147483) : thou whole [] = 1000 * u := by
  rw [thou_val (a := 0) (b := 0) (c := 0) hu h0 h1 rfl rfl rfl rfl (by omega) (by omega) (by omega) (by omega)]; omega

/-- A text of digits, with or without a part of thousandths, is its number. -/
theorem text_val {l : List UInt8} {u r : Int} (hl : allDig l = true) (hn : l ≠ []) (hu : grownAll 0 l = u) (h0 : 0 ≤ u) (h1 : u ≤ 2147483) (r0 : 0 ≤ r) (r1 : r ≤ 999) :
    formB (l ++ partT r) = true ∧ thou (wholeOf (l ++ partT r)) (partOf (l ++ partT r)) = 1000 * u + r := by
  have hlen : l.length ≠ 0 := fun h => hn (List.length_eq_zero_iff.1 h)
  by_cases hr : r = 0
  · rw [show partT r = [] from if_pos hr, List.append_nil]
    obtain ⟨e1, e2⟩ := cut_digits hl
    refine ⟨form_yes (by rw [e1]; omega) (by rw [e1]; exact hl) (by rw [e2]; rfl), ?_⟩
    rw [e1, e2, thou_none hu h0 h1]; omega
  · rw [show partT r = 46 :: trimT (Lib.itoa (1000 + r)) from if_neg hr]
    obtain ⟨e1, e2⟩ := cut_point (p := trimT (Lib.itoa (1000 + r))) hl
    obtain ⟨d, da, db, dc, dd⟩ := trimT_dig r0 r1
    refine ⟨form_yes (by rw [e1]; omega) (by rw [e1]; exact hl) (by rw [e2]; exact d), ?_⟩
    rw [e1, e2, thou_val hu h0 h1 da db dc dd (by omega) (by omega) (by omega) (by omega)]; omega

theorem chk_sane {x : Int} (h : saneB x = true) : chkV x = x ∧ chkE x = 0 := ⟨if_pos h, if_pos h⟩
theorem itoa_facts {u : Int} (h0 : 0 ≤ u) (h1 : u ≤ 2147483) : allDig (Lib.itoa u) = true ∧ Lib.itoa u ≠ [] ∧ grownAll 0 (Lib.itoa u) = u ∧ (Lib.itoa u).length ≤ 7 := by
  rw [itoa_pos h0]
  refine ⟨dec_all _, dec_ne _, ?_, ?_⟩
  · rw [dec_val _ (by omega)]; omega
  · rw [Lib.decDigits_length]; exact nDigits_le 6 _ (by omega)
theorem partT_len {r : Int} (r0 : 0 ≤ r) (r1 : r ≤ 999) : (partT r).length ≤ 4 := by
  unfold partT
  split
  · simp
  · have := trimT_len (Lib.itoa (1000 + r)) (by rw [itoa_four r0 r1]; simp)
    have e : (Lib.itoa (1000 + r)).length = 4 := by rw [itoa_four r0 r1]; rfl
    rw [List.length_cons]; omega

/-- There and back. -/
theorem print_back {f : Int} (h : saneB f = true) : parseV (printL f) = f ∧ parseE (printL f) = 0 ∧ (printL f).length ≤ 12 := by
  obtain ⟨b0, b1⟩ := sane_iff.1 h
  by_cases hn : f < 0
  · obtain ⟨g, rfl⟩ : ∃ g, f = -g := ⟨-f, by omega⟩
    obtain ⟨i1, i2, i3, i4⟩ := itoa_facts (u := g / 1000) (by omega) (by omega)
    obtain ⟨t1, t2⟩ := text_val (r := g % 1000) i1 i2 i3 (by omega) (by omega) (by omega) (by omega)
    have hl := partT_len (r := g % 1000) (by omega) (by omega)
    have e := print_minus h (by omega)
    have len : (printL (-g)).length ≤ 12 := by rw [e, List.length_cons, List.length_append]; omega
    obtain ⟨s1, s2⟩ := sign_dash (Lib.itoa (g / 1000) ++ partT (g % 1000))
    have hnum : numOf (printL (-g)) = -g := by
      unfold numOf
      rw [e, s1, s2, if_pos rfl, t2]; omega
    obtain ⟨p1, p2⟩ := parse_num (l := printL (-g)) (by omega) (by rw [e, s2]; exact t1)
    rw [p1, p2, hnum, (chk_sane h).1, (chk_sane h).2]
    exact ⟨rfl, rfl, len⟩
  · obtain ⟨i1, i2, i3, i4⟩ := itoa_facts (u := f / 1000) (by omega) (by omega)
    obtain ⟨t1, t2⟩ := text_val (r := f % 1000) i1 i2 i3 (by omega) (by omega) (by omega) (by omega)
    have hl := partT_len (r := f % 1000) (by omega) (by omega)
    have e := print_plus h hn
    have len : (printL f).length ≤ 12 := by rw [e, List.length_append]; omega
    obtain ⟨s1, s2⟩ := sign_digits (r := partT (f % 1000)) i1 i2
    have hnum : numOf (printL f) = f := by
      unfold numOf
      rw [e, s1, s2, if_neg (by simp), t2]; omega
    obtain ⟨p1, p2⟩ := parse_num (l := printL f) (by omega) (by rw [e, s2]; exact t1)
    rw [p1, p2, hnum, (chk_sane h).1, (chk_sane h).2]
    exact ⟨rfl, rfl, len⟩
/-- A number that is not below 0, with one more 0 ahead. -/
theorem zero_back {f : Int} (h : saneB f = true) (hn : 0 ≤ f) : parseV (48 :: printL f) = f ∧ parseE (48 :: printL f) = 0 := by
  obtain ⟨b0, b1⟩ := sane_iff.1 h
  obtain ⟨i1, i2, i3, i4⟩ := itoa_facts (u := f / 1000) (by omega) (by omega)
  have j1 : allDig (48 :: Lib.itoa (f / 1000)) = true := allDig_cons.2 ⟨by decide, i1⟩
  have j3 : grownAll 0 (48 :: Lib.itoa (f / 1000)) = f / 1000 := i3
  obtain ⟨t1, t2⟩ := text_val (r := f % 1000) j1 (by simp) j3 (by omega) (by omega) (by omega) (by omega)
  have hl := partT_len (r := f % 1000) (by omega) (by omega)
  have e : 48 :: printL f = (48 :: Lib.itoa (f / 1000)) ++ partT (f % 1000) := by rw [print_plus h (by omega)]; rfl
  have len : (48 :: printL f).length ≤ 13 := by rw [e, List.length_append, List.length_cons]; omega
  obtain ⟨s1, s2⟩ := sign_digits (r := partT (f % 1000)) j1 (by simp)
  have hnum : numOf (48 :: printL f) = f := by
    unfold numOf
    rw [e, s1, s2, if_neg (by simp), t2]; omega
  obtain ⟨p1, p2⟩ := parse_num (l := 48 :: printL f) (by omega) (by rw [e, s2]; exact t1)
  rw [p1, p2, hnum, (chk_sane h).1, (chk_sane h).2]
  exact ⟨rfl, rfl⟩
/-- A whole number's text with a point and a 0 behind. -/
theorem whole_back {x : Int} (h0 : 0 ≤ x) (h1 : x ≤ 2147483) : parseV (printL (1000 * x) ++ [46, 48]) = 1000 * x ∧ parseE (printL (1000 * x) ++ [46, 48]) = 0 := by
  have h : saneB (1000 * x) = true := by rw [sane_iff]; omega
  obtain ⟨i1, i2, i3, i4⟩ := itoa_facts h0 h1
  have e : printL (1000 * x) = Lib.itoa x := by
    rw [print_plus h (by omega), show 1000 * x / 1000 = x by omega, show 1000 * x % 1000 = 0 by omega, show partT 0 = [] from rfl, List.append_nil]
  rw [e]
  obtain ⟨e1, e2⟩ := cut_point (p := [48]) i1
  obtain ⟨s1, s2⟩ := sign_digits (r := [46, 48]) i1 i2
  have hlen : (Lib.itoa x).length ≠ 0 := fun h => i2 (List.length_eq_zero_iff.1 h)
  have hnum : numOf (Lib.itoa x ++ [46, 48]) = 1000 * x := by
    unfold numOf
    rw [s1, s2, if_neg (by simp), e1, e2, thou_val (a := 0) (b := 0) (c := 0) i3 h0 h1 rfl rfl rfl rfl (by omega) (by omega) (by omega) (by omega)]; omega
  obtain ⟨p1, p2⟩ := parse_num (l := Lib.itoa x ++ [46, 48]) (by rw [List.length_append]; simp; omega) (by rw [s2]; exact form_yes (by rw [e1]; omega) (by rw [e1]; exact i1) (by rw [e2]; rfl))
  rw [p1, p2, hnum, (chk_sane h).1, (chk_sane h).2]
  exact ⟨rfl, rfl⟩

end Go.Proofs.YtkobcgemllcfoaaDoor.Fx
