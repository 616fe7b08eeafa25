/-
  Plain texts behind the law FixReads: the document's own reading of a number's text, and why it is the program's.
-/
import Derived.Test.YtoakbcjdkohoiaaFixReadMath
namespace Go.Proofs.Ytoakbcjdkohoiaa.Fx

/-- How many digits a text begins with. -/
def cntDig (l : List UInt8) : Nat := (l.takeWhile isDig).length
theorem cnt_of : ∀ {l : List UInt8} {k : Nat}, allDig (l.take k) = true → k ≤ l.length → (∀ c, l[k]? = some c → isDig c = false) → cntDig l = k
  | [], k, _, hk, _ => by simp at hk; subst hk; rfl
  | c :: r, 0, _, _, hs => by
    have := hs c rfl
    unfold cntDig; rw [List.takeWhile_cons, this]; rfl
  | c :: r, k + 1, hd, hk, hs => by
    rw [List.take_succ_cons, allDig_cons] at hd
    have ih := cnt_of (l := r) (k := k) hd.2 (by simpa using hk) (fun x hx => hs x (by simpa using hx))
    unfold cntDig at *
    rw [List.takeWhile_cons, hd.1]
    simp [ih]
theorem cnt_le (l : List UInt8) : cntDig l ≤ l.length := (List.takeWhile_sublist _).length_le
theorem take_cnt (l : List UInt8) : l.take (cntDig l) = l.takeWhile isDig := by
  have h : (l.takeWhile isDig ++ l.dropWhile isDig).take (l.takeWhile isDig).length = l.takeWhile isDig := List.take_left
  rwa [List.takeWhile_append_dropWhile] at h
theorem drop_cnt (l : List UInt8) : l.drop (cntDig l) = l.dropWhile isDig := by
  have h : (l.takeWhile isDig ++ l.dropWhile isDig).drop (l.takeWhile isDig).length = l.dropWhile isDig := List.drop_left
  rwa [List.takeWhile_append_dropWhile] at h
theorem allDig_takeWhile (l : List UInt8) : allDig (l.takeWhile isDig) = true := by
  unfold allDig
  induction l with
  | nil => rfl
  | cons c r ih =>
    rw [List.takeWhile_cons]
    split
    · rename_i h; rw [List.all_cons, h, ih]; rfl
    · rfl
theorem take_all (l : List UInt8) (h : allDig l = true) : l.takeWhile isDig = l := by
  induction l with
  | nil => rfl
  | cons c r ih =>
    obtain ⟨hc, hr⟩ := allDig_cons.1 h
    rw [List.takeWhile_cons, hc, ih hr]; rfl

/-- Has the text a sign? -/
def hasSign : List UInt8 → Bool
  | c :: _ => c == 43 || c == 45
  | [] => false
theorem hasSign_yes {l : List UInt8} (h : hasSign l = true) : 1 ≤ l.length ∧ behindSign l = l.drop 1 := by
  cases l with
  | nil => cases h
  | cons c r => exact ⟨by simp, if_pos h⟩
theorem hasSign_no {l : List UInt8} (h : hasSign l = false) : behindSign l = l := by
  cases l with
  | nil => rfl
  | cons c r => exact if_neg (by rw [show (c == 43 || c == 45) = false from h]; simp)
theorem hasSign_of {c : UInt8} {r : List UInt8} : (c.toNat = 43 ∨ c.toNat = 45 → hasSign (c :: r) = true) ∧ (c.toNat ≠ 43 → c.toNat ≠ 45 → hasSign (c :: r) = false) := by
  refine ⟨fun h => ?_, fun h h' => ?_⟩
  · rcases h with h | h
    · obtain rfl : c = 43 := UInt8.toNat_inj.1 h
      rfl
    · obtain rfl : c = 45 := UInt8.toNat_inj.1 h
      rfl
  · have a : (c == 43) = false := by rw [beq_eq_false_iff_ne]; rintro rfl; exact h rfl
    have b : (c == 45) = false := by rw [beq_eq_false_iff_ne]; rintro rfl; exact h' rfl
    show (c == 43 || c == 45) = false
    rw [a, b]; rfl

/-- Is the first character behind the digits a point? -/
def pointed (d : List UInt8) : Bool := match d.dropWhile isDig with
  | c :: _ => c == 46
  | [] => false
def refA (d : List UInt8) : List UInt8 := d.takeWhile isDig
def refP (d : List UInt8) : List UInt8 := if pointed d = true then (d.drop (cntDig d + 1)).takeWhile isDig else []
def refN (d : List UInt8) : Nat := if pointed d = true then cntDig d + 1 + (refP d).length else cntDig d

theorem ref_cases (d : List UInt8) :
    (pointed d = false ∧ cntDig d = d.length ∧ formB d = !(d.length == 0) ∧ wholeOf d = refA d ∧ partOf d = []) ∨
    (pointed d = true ∧ cntDig d < d.length ∧ d[cntDig d]? = some 46 ∧ wholeOf d = refA d ∧ partOf d = d.drop (cntDig d + 1)) ∨
    (pointed d = false ∧ cntDig d < d.length ∧ (∀ c, d[cntDig d]? = some c → c ≠ 46) ∧ formB d = false) := by
  have h : d = d.takeWhile isDig ++ d.dropWhile isDig := List.takeWhile_append_dropWhile.symm
  have hA := allDig_takeWhile d
  have hl : d.length = cntDig d + (d.dropWhile isDig).length := by
    conv => lhs; rw [h]
    rw [List.length_append]; rfl
  have hx : d[cntDig d]? = (d.dropWhile isDig)[0]? := by rw [← drop_cnt, List.getElem?_drop, Nat.add_zero]
  cases hR : d.dropWhile isDig with
  | nil =>
    left
    rw [hR] at h hl
    rw [List.append_nil] at h
    have hd : allDig d = true := by rw [h]; exact hA
    obtain ⟨e1, e2⟩ := cut_digits hd
    refine ⟨by unfold pointed; rw [hR], by simpa using hl.symm, ?_, by rw [e1]; exact h, e2⟩
    unfold formB
    rw [e1, e2, hd]
    simp [allDig]
  | cons c r =>
    have hc : isDig c = false := by
      have := List.head?_dropWhile_not isDig d
      rw [hR] at this
      simpa using this
    rw [hR] at h hl hx
    have hlt : cntDig d < d.length := by rw [hl, List.length_cons]; omega
    have hx' : d[cntDig d]? = some c := hx
    by_cases hp : c = 46
    · subst hp
      right; left
      obtain ⟨e1, e2⟩ := cut_point (l := d.takeWhile isDig) (p := r) hA
      rw [← h] at e1 e2
      refine ⟨by unfold pointed; rw [hR]; rfl, hlt, hx', e1, ?_⟩
      rw [e2, ← List.drop_drop, drop_cnt, hR]; rfl
    · right; right
      refine ⟨by unfold pointed; rw [hR]; exact beq_eq_false_iff_ne.2 hp, hlt, fun x hxx => ?_, ?_⟩
      · rw [hx'] at hxx; injection hxx with e; exact e ▸ hp
      · apply form_whole
        have hw : ∀ a : List UInt8, allDig a = true → c ∈ wholeOf (a ++ c :: r) := by
          intro a
          induction a with
          | nil => intro _; rw [List.nil_append, wholeOf_cons, if_neg hp]; exact List.mem_cons_self
          | cons x a ih =>
            intro ha
            obtain ⟨h1, h2⟩ := allDig_cons.1 ha
            rw [List.cons_append, wholeOf_cons, if_neg (dig_ne_point h1)]
            exact List.mem_cons_of_mem _ (ih h2)
        have := hw _ hA
        rw [← h] at this
        exact allDig_no this hc

theorem refA_dig (d : List UInt8) : allDig (refA d) = true := allDig_takeWhile d
theorem refP_dig (d : List UInt8) : allDig (refP d) = true := by
  unfold refP; split
  · exact allDig_takeWhile _
  · rfl
theorem refA_len (d : List UInt8) : (refA d).length = cntDig d := rfl
theorem refP_len {d : List UInt8} (h : pointed d = true) : (refP d).length = cntDig (d.drop (cntDig d + 1)) := by
  unfold refP; rw [if_pos h]; rfl
theorem pointed_lt {d : List UInt8} (h : pointed d = true) : cntDig d < d.length ∧ d[cntDig d]? = some 46 := by
  rcases ref_cases d with ⟨h1, _⟩ | ⟨_, h2, h3, _⟩ | ⟨h1, _⟩
  · rw [h] at h1; cases h1
  · exact ⟨h2, h3⟩
  · rw [h] at h1; cases h1
theorem pointed_no {d : List UInt8} (h : pointed d = false) : cntDig d = d.length ∨ cntDig d < d.length ∧ ∀ c, d[cntDig d]? = some c → c ≠ 46 := by
  rcases ref_cases d with ⟨_, h1, _⟩ | ⟨h1, _⟩ | ⟨_, h1, h2, _⟩
  · exact .inl h1
  · rw [h] at h1; cases h1
  · exact .inr ⟨h1, h2⟩
theorem refN_le (d : List UInt8) : refN d ≤ d.length := by
  unfold refN
  split
  · rename_i h
    have := (pointed_lt h).1
    rw [refP_len h]
    have h2 := cnt_le (d.drop (cntDig d + 1))
    rw [List.length_drop] at h2
    omega
  · exact cnt_le d
/-- The document's own test of a text's form is the program's. -/
theorem ref_test (d : List UInt8) :
    (formB d = true ∧ refN d = d.length ∧ (refA d).length + (refP d).length ≠ 0 ∧ wholeOf d = refA d ∧ partOf d = refP d) ∨ (formB d = false ∧ (refN d < d.length ∨ (refA d).length + (refP d).length = 0)) := by
  rcases ref_cases d with ⟨h1, h2, h3, h4, h5⟩ | ⟨h1, h2, _, h4, h5⟩ | ⟨h1, h2, _, h4⟩
  · have hP : refP d = [] := if_neg (by rw [h1]; simp)
    have hN : refN d = d.length := by unfold refN; rw [if_neg (by rw [h1]; simp)]; exact h2
    by_cases h0 : d.length = 0
    · right
      refine ⟨by rw [h3, h0]; rfl, .inr ?_⟩
      rw [hP, refA_len, h2]; simpa using h0
    · left
      refine ⟨by rw [h3, beq_eq_false_iff_ne.2 h0]; rfl, hN, ?_, h4, by rw [h5, hP]⟩
      rw [hP, refA_len, h2]; simpa using h0
  · have hPl := refP_len h1
    have hN : refN d = cntDig d + 1 + (refP d).length := if_pos h1
    have hle := cnt_le (d.drop (cntDig d + 1))
    rw [List.length_drop] at hle
    by_cases hall : allDig (partOf d) = true
    · have hPe : refP d = partOf d := by
        unfold refP; rw [if_pos h1, ← h5]; exact take_all _ hall
      have hlen : (partOf d).length = d.length - (cntDig d + 1) := by rw [h5, List.length_drop]
      by_cases h0 : (refA d).length + (refP d).length = 0
      · exact .inr ⟨form_zero (by rw [h4, ← hPe]; exact h0), .inr h0⟩
      · refine .inl ⟨form_yes (by rw [h4, ← hPe]; exact h0) (by rw [h4]; exact refA_dig d) hall, ?_, h0, h4, hPe.symm⟩
        rw [hN, hPe, hlen]; omega
    · have hall' : allDig (partOf d) = false := by simpa using hall
      refine .inr ⟨form_part hall', .inl ?_⟩
      by_cases hlt : (refP d).length < d.length - (cntDig d + 1)
      · rw [hN]; omega
      · exfalso
        apply hall
        have hl2 : cntDig (d.drop (cntDig d + 1)) = (d.drop (cntDig d + 1)).length := by rw [List.length_drop]; omega
        have ht := take_cnt (d.drop (cntDig d + 1))
        rw [hl2, List.take_length] at ht
        rw [h5, ht]
        exact allDig_takeWhile _
  · right
    refine ⟨h4, .inl ?_⟩
    unfold refN
    rw [if_neg (by rw [h1]; simp)]; exact h2

/-- Digits one behind the other, however many. -/
def valFrom (n : Int) (l : List UInt8) : Int := l.foldl (fun n c => 10 * n + ((c.toNat : Int) - 48)) n
theorem valFrom_snoc (n : Int) (l : List UInt8) (c : UInt8) : valFrom n (l ++ [c]) = 10 * valFrom n l + ((c.toNat : Int) - 48) := by simp [valFrom]
theorem valFrom_ge : ∀ {l : List UInt8} {n : Int}, allDig l = true → 0 ≤ n → n ≤ valFrom n l
  | [], n, _, _ => Int.le_refl _
  | c :: r, n, h, h0 => by
    obtain ⟨hc, hr⟩ := allDig_cons.1 h
    have := isDig_iff.1 hc
    have ih := valFrom_ge (l := r) (n := 10 * n + ((c.toNat : Int) - 48)) hr (by omega)
    show n ≤ valFrom (10 * n + ((c.toNat : Int) - 48)) r
    omega
theorem sat_val : ∀ {l : List UInt8} {n m : Int}, allDig l = true → 0 ≤ n → (n = m ∨ 2147483648 < n ∧ 2147483648 < m) → (grownAll n l = valFrom m l ∨ 2147483648 < grownAll n l ∧ 2147483648 < valFrom m l)
  | [], _, _, _, _, h => h
  | c :: r, n, m, hd, h0, h => by
    obtain ⟨hc, hr⟩ := allDig_cons.1 hd
    have := isDig_iff.1 hc
    show grownAll (grown n c.toNat) r = valFrom (10 * m + ((c.toNat : Int) - 48)) r ∨ 2147483648 < grownAll (grown n c.toNat) r ∧ 2147483648 < valFrom (10 * m + ((c.toNat : Int) - 48)) r
    by_cases hb : 2147483648 < n
    · have e : grown n c.toNat = n := if_pos hb
      rw [e]
      exact sat_val (m := 10 * m + ((c.toNat : Int) - 48)) hr h0 (.inr (by omega))
    · have e : grown n c.toNat = 10 * n + ((c.toNat : Int) - 48) := if_neg hb
      rw [e]
      exact sat_val (m := 10 * m + ((c.toNat : Int) - 48)) hr (by omega) (.inl (by omega))

/-- The first three digits behind the point, 0 where there is none. -/
def pad3 (p : List UInt8) : List UInt8 := (p ++ [48, 48, 48, 48]).take 3
theorem pad3_eq (p : List UInt8) : pad3 p = [p[0]?.getD 48, p[1]?.getD 48, p[2]?.getD 48] := by
  match p with
  | [] => rfl
  | [_] => rfl
  | [_, _] => rfl
  | _ :: _ :: _ :: _ => rfl
theorem thou3_pad (a p : List UInt8) : thou3 a p 3 = grownAll 0 (a ++ pad3 p) := by
  rw [pad3_eq]
  unfold grownAll
  rw [List.foldl_append]
  rfl
theorem allDig_pad {p : List UInt8} (h : allDig p = true) : allDig (pad3 p) = true := by
  unfold pad3
  exact allDig_take (allDig_append.2 ⟨h, by decide⟩) 3

/-- The number that the document's own reading reckons. -/
def refV (a p : List UInt8) : Int := valFrom 0 (a ++ pad3 p)
def refR (a p : List UInt8) : Int := if 53 ≤ dAt p 3 then refV a p + 1 else refV a p
theorem chk_big {x : Int} (h : 2147483648 < x ∨ x < -2147483648) : chkV x = 0 ∧ chkE x = 2 := by
  have : ¬ saneB x = true := by rw [sane_iff]; omega
  exact ⟨if_neg this, if_neg this⟩
theorem ref_or {a p : List UInt8} (ha : allDig a = true) (hp : allDig p = true) : thou a p = refR a p ∨ 2147483648 < thou a p ∧ 2147483648 < refR a p := by
  have h := sat_val (l := a ++ pad3 p) (n := 0) (m := 0) (allDig_append.2 ⟨ha, allDig_pad hp⟩) (by omega) (.inl rfl)
  rw [← thou3_pad] at h
  unfold thou refR refV
  by_cases h5 : 53 ≤ dAt p 3
  · rw [if_pos h5, if_pos h5]; omega
  · rw [if_neg h5, if_neg h5]; omega
theorem ref_chk {a p : List UInt8} (ha : allDig a = true) (hp : allDig p = true) : chkV (refR a p) = chkV (thou a p) ∧ chkE (refR a p) = chkE (thou a p) ∧ chkV (-(refR a p)) = chkV (-(thou a p)) ∧ chkE (-(refR a p)) = chkE (-(thou a p)) := by
  rcases ref_or ha hp with h | ⟨h1, h2⟩
  · rw [h]; exact ⟨rfl, rfl, rfl, rfl⟩
  · rw [(chk_big (.inl h1)).1, (chk_big (.inl h1)).2, (chk_big (.inl h2)).1, (chk_big (.inl h2)).2]
    rw [(chk_big (x := -(refR a p)) (.inr (by omega))).1, (chk_big (x := -(refR a p)) (.inr (by omega))).2, (chk_big (x := -(thou a p)) (.inr (by omega))).1, (chk_big (x := -(thou a p)) (.inr (by omega))).2]
    exact ⟨rfl, rfl, rfl, rfl⟩
/-- What has grown too great stays so. -/
theorem ref_great {a p : List UInt8} (ha : allDig a = true) (hp : allDig p = true) {k : Nat} (h : 1099511627776 < valFrom 0 ((a ++ pad3 p).take k)) :
    chkV (thou a p) = 0 ∧ chkE (thou a p) = 2 ∧ chkV (-(thou a p)) = 0 ∧ chkE (-(thou a p)) = 2 := by
  have hd : allDig (a ++ pad3 p) = true := allDig_append.2 ⟨ha, allDig_pad hp⟩
  have hg : valFrom 0 ((a ++ pad3 p).take k) ≤ refV a p := by
    unfold refV
    conv => rhs; rw [← List.take_append_drop k (a ++ pad3 p)]
    show _ ≤ List.foldl _ _ _
    rw [List.foldl_append]
    have hdd : allDig ((a ++ pad3 p).drop k) = true := List.all_eq_true.2 fun _ hc => allDig_mem hd (List.mem_of_mem_drop hc)
    exact valFrom_ge (n := valFrom 0 ((a ++ pad3 p).take k)) hdd (by omega)
  have hr : 1099511627776 < refR a p := by unfold refR; split <;> omega
  have ht : 2147483648 < thou a p := by rcases ref_or ha hp with h | ⟨h1, _⟩ <;> omega
  exact ⟨(chk_big (.inl ht)).1, (chk_big (.inl ht)).2, (chk_big (.inr (by omega))).1, (chk_big (.inr (by omega))).2⟩

theorem refP_le (d : List UInt8) : (refP d).length ≤ d.length := by
  cases h : pointed d
  · rw [show refP d = [] from if_neg (by rw [h]; simp)]; simp
  · have := refN_le d
    unfold refN at this
    rw [if_pos h] at this
    omega
theorem ref_num {l d : List UInt8} (hd : behindSign l = d) (e1 : wholeOf d = refA d) (e2 : partOf d = refP d) :
    (signOf l = false → numOf l = thou (refA d) (refP d)) ∧ (signOf l = true → numOf l = -(thou (refA d) (refP d))) := by
  subst hd
  unfold numOf
  rw [e1, e2]
  exact ⟨fun h => if_neg (by rw [h]; simp), fun h => if_pos h⟩
theorem ref_pos {l d : List UInt8} (hl : l.length ≤ 400) (hd : behindSign l = d) (hf : formB d = true) (e1 : wholeOf d = refA d) (e2 : partOf d = refP d) (hs : signOf l = false) :
    parseV l = chkV (refR (refA d) (refP d)) ∧ parseE l = chkE (refR (refA d) (refP d)) := by
  obtain ⟨p1, p2⟩ := parse_num (l := l) (by omega) (by rw [hd]; exact hf)
  obtain ⟨c1, c2, _, _⟩ := ref_chk (refA_dig d) (refP_dig d)
  rw [p1, p2, (ref_num hd e1 e2).1 hs, c1, c2]
  exact ⟨rfl, rfl⟩
theorem ref_neg {l d : List UInt8} (hl : l.length ≤ 400) (hd : behindSign l = d) (hf : formB d = true) (e1 : wholeOf d = refA d) (e2 : partOf d = refP d) (hs : signOf l = true) :
    parseV l = chkV (-(refR (refA d) (refP d))) ∧ parseE l = chkE (-(refR (refA d) (refP d))) := by
  obtain ⟨p1, p2⟩ := parse_num (l := l) (by omega) (by rw [hd]; exact hf)
  obtain ⟨_, _, c1, c2⟩ := ref_chk (refA_dig d) (refP_dig d)
  rw [p1, p2, (ref_num hd e1 e2).2 hs, c1, c2]
  exact ⟨rfl, rfl⟩
theorem ref_big {l d : List UInt8} (hl : l.length ≤ 400) (hd : behindSign l = d) (hf : formB d = true) (e1 : wholeOf d = refA d) (e2 : partOf d = refP d) {k : Nat} (h : 1099511627776 < valFrom 0 ((refA d ++ pad3 (refP d)).take k)) :
    parseV l = 0 ∧ parseE l = 2 := by
  obtain ⟨p1, p2⟩ := parse_num (l := l) (by omega) (by rw [hd]; exact hf)
  obtain ⟨g1, g2, g3, g4⟩ := ref_great (refA_dig d) (refP_dig d) h
  cases hs : signOf l
  · rw [p1, p2, (ref_num hd e1 e2).1 hs, g1, g2]; exact ⟨rfl, rfl⟩
  · rw [p1, p2, (ref_num hd e1 e2).2 hs, g3, g4]; exact ⟨rfl, rfl⟩
theorem pad3_len (p : List UInt8) : (pad3 p).length = 3 := by rw [pad3_eq]; rfl
theorem dAt_in {p : List UInt8} {k : Nat} (h : k < p.length) : dAt p k = (p[k].toNat : Int) := by
  unfold dAt; rw [List.getElem?_eq_getElem h, Option.getD_some]
theorem dAt_out {p : List UInt8} {k : Nat} (h : ¬ k < p.length) : dAt p k = 48 := by
  unfold dAt; rw [List.getElem?_eq_none (by omega), Option.getD_none]; rfl
theorem refR_up {a p : List UInt8} (h : 53 ≤ dAt p 3) : refR a p = refV a p + 1 := if_pos h
theorem refR_down {a p : List UInt8} (h : ¬ 53 ≤ dAt p 3) : refR a p = refV a p := if_neg h

end Go.Proofs.Ytoakbcjdkohoiaa.Fx
