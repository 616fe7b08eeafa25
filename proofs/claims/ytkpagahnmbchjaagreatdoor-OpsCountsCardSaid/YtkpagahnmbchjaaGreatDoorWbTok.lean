/-
  The tokens of written numbers and words. Nothing of the program is named here.
-/
import Derived.Test.YtkpagahnmbchjaaGreatDoorLexM
import Derived.Test.YtkpagahnmbchjaaGreatDoorCosDeepMath
import Derived.Test.YtkpagahnmbchjaaGreatDoorFixMs
import Derived.Test.YtkpagahnmbchjaaGreatDoorLexBackMath
namespace Go.Proofs.YtkpagahnmbchjaaGreatDoor.Cx
open Lx
set_option linter.unusedSimpArgs false
set_option linter.unusedVariables false

theorem tw_all {t : List UInt8} (h : ∀ b ∈ t, reg b = true) (r : List UInt8) : tw reg (t ++ r) = t.length + tw reg r := by
  induction t with
  | nil => simp
  | cons b t ih =>
    rw [List.cons_append, tw, if_pos (h b List.mem_cons_self), ih (fun c hc => h c (List.mem_cons_of_mem _ hc)), List.length_cons]; omega
theorem num_reg {b : UInt8} (h : numB b = true) : reg b = true ∧ b ≠ 37 ∧ white b = false := by
  have := byte_all (fun b => !numB b || (reg b && (b != 37) && !white b)) (by kernel_rfl) b
  rw [h] at this; simpa [and_assoc] using this
theorem num_tok {b : UInt8} (h : numB b = true) : (b == 91) = false ∧ (b == 93) = false ∧ (b == 60) = false ∧ (b == 62) = false ∧ (b == 47) = false ∧ (b == 40) = false ∧ (b == 41 || b == 123 || b == 125) = false := by
  have := byte_all (fun b => !numB b || (!(b == 91) && !(b == 93) && !(b == 60) && !(b == 62) && !(b == 47) && !(b == 40) && !(b == 41 || b == 123 || b == 125))) (by kernel_rfl) b
  rw [h] at this
  simpa [and_assoc] using this
theorem dig_num {b : UInt8} (h : Fx.isDig b = true) : numB b = true ∧ b ≠ 46 := by
  have := byte_all (fun b => !Fx.isDig b || (numB b && (b != 46))) (by kernel_rfl) b
  rw [h] at this; simpa using this

/-- A number's token. -/
theorem next_num {t suf : List UInt8} (hn : t ≠ []) (hb : ∀ b ∈ t, numB b = true) (hs : tw reg suf = 0) (he : Fx.parseE t = 0) :
    nextV (t ++ suf) 0 = (0, ⟨1, Fx.parseV t, [], !pointIn t, 0, t.length⟩) := by
  obtain ⟨b, r, rfl⟩ : ∃ b r, t = b :: r := List.exists_cons_of_ne_nil hn
  have hbn := hb b List.mem_cons_self
  obtain ⟨n1, n2, n3, n4, n5, n6, n7⟩ := num_tok hbn
  have hsp : spc false ((b :: r) ++ suf) = 0 := spc_not (num_reg hbn).2.2 (num_reg hbn).2.1 _
  have htw : tw reg ((b :: r) ++ suf) = (b :: r).length := by
    rw [tw_all (fun c hc => (num_reg (hb c hc)).1), hs, Nat.add_zero]
  have ht : tokV ((b :: r) ++ suf) 0 = Lx.wordV ((b :: r) ++ suf) 0 := by
    unfold tokV
    rw [List.drop_zero, List.cons_append]
    simp only [n1, n2, n3, n4, n5, n6, n7, Bool.false_eq_true, if_false]
  have hw : Lx.wordV ((b :: r) ++ suf) 0 = (0, ⟨1, Fx.parseV (b :: r), [], !pointIn (b :: r), 0, (b :: r).length⟩) := by
    unfold Lx.wordV
    rw [List.drop_zero, htw, List.take_left]
    rw [show (((b :: r) ++ suf).headD 0) = b from rfl, hbn, he]
    simp
  rw [next_zero, hsp, ht, hw]
  rfl
/-- A word's token. -/
theorem next_word {t suf : List UInt8} (hn : t ≠ []) (hb : ∀ b ∈ t, reg b = true) (h0 : numB (t.headD 0) = false) (hs : tw reg suf = 0) :
    nextV (t ++ suf) 0 = (0, ⟨8, 0, t, false, 0, t.length⟩) := by
  obtain ⟨b, r, rfl⟩ : ∃ b r, t = b :: r := List.exists_cons_of_ne_nil hn
  have hbr := hb b List.mem_cons_self
  have hd : (b == 91) = false ∧ (b == 93) = false ∧ (b == 60) = false ∧ (b == 62) = false ∧ (b == 47) = false ∧ (b == 40) = false ∧ (b == 41 || b == 123 || b == 125) = false ∧ white b = false ∧ b ≠ 37 := by
    have := byte_all (fun b => !reg b || (!(b == 91) && !(b == 93) && !(b == 60) && !(b == 62) && !(b == 47) && !(b == 40) && !(b == 41 || b == 123 || b == 125) && !white b && (b != 37))) (by kernel_rfl) b
    rw [hbr] at this
    simpa [and_assoc] using this
  obtain ⟨n1, n2, n3, n4, n5, n6, n7, n8, n9⟩ := hd
  have hsp : spc false ((b :: r) ++ suf) = 0 := spc_not n8 n9 _
  have htw : tw reg ((b :: r) ++ suf) = (b :: r).length := by
    rw [tw_all hb, hs, Nat.add_zero]
  have ht : tokV ((b :: r) ++ suf) 0 = Lx.wordV ((b :: r) ++ suf) 0 := by
    unfold tokV
    rw [List.drop_zero, List.cons_append]
    simp only [n1, n2, n3, n4, n5, n6, n7, Bool.false_eq_true, if_false]
  have hw : Lx.wordV ((b :: r) ++ suf) 0 = (0, ⟨8, 0, b :: r, false, 0, (b :: r).length⟩) := by
    unfold Lx.wordV
    rw [List.drop_zero, htw, List.take_left]
    rw [show (((b :: r) ++ suf).headD 0) = b from rfl, show numB b = false from h0]
    simp
  rw [next_zero, hsp, ht, hw]
  rfl

/-! ### a written number -/
theorem allDig_num {l : List UInt8} (h : Fx.allDig l = true) : ∀ b ∈ l, numB b = true ∧ b ≠ 46 := by
  intro b hb
  exact dig_num (List.all_eq_true.1 h b hb)
theorem mag_parts {f : Int} (h : Fx.saneB f = true) : 0 ≤ Fx.mag f / 1000 ∧ Fx.mag f / 1000 ≤ 2147483 ∧ 0 ≤ Fx.mag f % 1000 ∧ Fx.mag f % 1000 ≤ 999 := by
  obtain ⟨b0, b1⟩ := Fx.sane_iff.1 h
  unfold Fx.mag
  split <;> omega
theorem whole_iff (f : Int) : wholeF f = true ↔ Fx.mag f % 1000 = 0 := by
  unfold wholeF Fx.mag
  rw [beq_iff_eq]
  by_cases h : f < 0
  · rw [if_pos h]
    obtain ⟨g, rfl⟩ : ∃ g, f = -g := ⟨-f, by omega⟩
    rw [Int.neg_tmod, Int.tmod_eq_emod_of_nonneg (by omega)]
    omega
  · rw [if_neg h, Int.tmod_eq_emod_of_nonneg (by omega)]
theorem printL_eq {f : Int} (h : Fx.saneB f = true) : Fx.printL f = (if f < 0 then [45] else []) ++ (Lib.itoa (Fx.mag f / 1000) ++ Fx.partT (Fx.mag f % 1000)) := by
  unfold Fx.printL
  rw [if_pos h]
  split <;> simp
theorem part_num {r : Int} (r0 : 0 ≤ r) (r1 : r ≤ 999) : ∀ b ∈ Fx.partT r, numB b = true := by
  unfold Fx.partT
  split
  · intro b hb; cases hb
  · intro b hb
    rcases List.mem_cons.1 hb with rfl | hb
    · rfl
    · exact (allDig_num (Fx.trimT_dig r0 r1).1 b hb).1
theorem print_num {f : Int} (h : Fx.saneB f = true) : Fx.printL f ≠ [] ∧ ∀ b ∈ Fx.printL f, numB b = true := by
  obtain ⟨m0, m1, m2, m3⟩ := mag_parts h
  obtain ⟨i1, i2, -, -⟩ := Fx.itoa_facts m0 m1
  rw [printL_eq h]
  refine ⟨fun e => ?_, fun b hb => ?_⟩
  · have := (List.append_eq_nil_iff.1 (List.append_eq_nil_iff.1 e).2).1
    exact i2 this
  · rcases List.mem_append.1 hb with hb | hb
    · split at hb
      · rw [List.mem_singleton.1 hb]; rfl
      · cases hb
    · rcases List.mem_append.1 hb with hb | hb
      · exact (allDig_num i1 b hb).1
      · exact part_num m2 m3 b hb
theorem idx_no : ∀ (l : List UInt8), (∀ b ∈ l, b ≠ 46) → Lib.indexByte l 46 = -1
  | [], _ => rfl
  | b :: r, h => by
    have h1 := idx_no r (fun c hc => h c (List.mem_cons_of_mem _ hc))
    have h2 : (b == 46) = false := by simpa using h b List.mem_cons_self
    unfold Lib.indexByte
    simp [h2, h1]
theorem idx_yes : ∀ (l : List UInt8), (46 : UInt8) ∈ l → 0 ≤ Lib.indexByte l 46
  | [], h => by cases h
  | b :: r, h => by
    unfold Lib.indexByte
    by_cases hb : b = 46
    · simp [hb]
    · have h2 : (b == 46) = false := by simpa using hb
      have h1 := idx_yes r ((List.mem_cons.1 h).resolve_left (Ne.symm hb))
      simp only [h2, Bool.false_eq_true, if_false]
      split
      · rename_i h3; rw [beq_iff_eq] at h3; omega
      · omega
theorem point_print {f : Int} (h : Fx.saneB f = true) : pointIn (Fx.printL f) = !wholeF f := by
  obtain ⟨m0, m1, m2, m3⟩ := mag_parts h
  obtain ⟨i1, i2, -, -⟩ := Fx.itoa_facts m0 m1
  unfold pointIn
  by_cases hw : wholeF f = true
  · rw [hw]
    have hz := (whole_iff f).1 hw
    have : Lib.indexByte (Fx.printL f) 46 = -1 := by
      refine idx_no _ fun b hb => ?_
      rw [printL_eq h, hz, show Fx.partT 0 = [] from rfl, List.append_nil] at hb
      rcases List.mem_append.1 hb with hb | hb
      · split at hb
        · rw [List.mem_singleton.1 hb]; decide
        · cases hb
      · exact (allDig_num i1 b hb).2
    rw [this]; rfl
  · have hz : ¬ Fx.mag f % 1000 = 0 := fun e => hw ((whole_iff f).2 e)
    rw [Bool.not_eq_true] at hw
    rw [hw]
    have : 0 ≤ Lib.indexByte (Fx.printL f) 46 := by
      refine idx_yes _ ?_
      rw [printL_eq h]
      refine List.mem_append_right _ (List.mem_append_right _ ?_)
      unfold Fx.partT
      rw [if_neg hz]
      exact List.mem_cons_self
    simpa using this
theorem whole_back' {f : Int} (h : Fx.saneB f = true) (hw : wholeF f = true) : Fx.parseV (Fx.printL f ++ [46, 48]) = f ∧ Fx.parseE (Fx.printL f ++ [46, 48]) = 0 := by
  obtain ⟨m0, m1, m2, m3⟩ := mag_parts h
  have hz := (whole_iff f).1 hw
  obtain ⟨b0, b1⟩ := Fx.sane_iff.1 h
  by_cases hn : f < 0
  · obtain ⟨x, rfl⟩ : ∃ x, f = -(1000 * x) := ⟨-f / 1000, by unfold Fx.mag at hz; rw [if_pos hn] at hz; omega⟩
    have h0 : 0 < x := by omega
    have h1 : x ≤ 2147483 := by omega
    obtain ⟨i1, i2, i3, i4⟩ := Fx.itoa_facts (u := x) (by omega) h1
    have e : Fx.printL (-(1000 * x)) = 45 :: Lib.itoa x := by
      rw [Fx.print_minus h (by omega), show 1000 * x / 1000 = x by omega, show 1000 * x % 1000 = 0 by omega, show Fx.partT 0 = [] from rfl, List.append_nil]
    rw [e, List.cons_append]
    obtain ⟨e1, e2⟩ := Fx.cut_point (p := [48]) i1
    obtain ⟨s1, s2⟩ := Fx.sign_dash (Lib.itoa x ++ [46, 48])
    have hlen : (Lib.itoa x).length ≠ 0 := fun h => i2 (List.length_eq_zero_iff.1 h)
    have hnum : Fx.numOf (45 :: (Lib.itoa x ++ [46, 48])) = -(1000 * x) := by
      unfold Fx.numOf
      rw [s1, s2, if_pos rfl, e1, e2, Fx.thou_val (a := 0) (b := 0) (c := 0) i3 (by omega) h1 rfl rfl rfl rfl (by omega) (by omega) (by omega) (by omega)]; omega
    obtain ⟨p1, p2⟩ := Fx.parse_num (l := 45 :: (Lib.itoa x ++ [46, 48])) (by rw [List.length_cons, List.length_append]; simp; omega) (by rw [s2]; exact Fx.form_yes (by rw [e1]; omega) (by rw [e1]; exact i1) (by rw [e2]; rfl))
    rw [p1, p2, hnum, (Fx.chk_sane h).1, (Fx.chk_sane h).2]
    exact ⟨rfl, rfl⟩
  · obtain ⟨x, rfl⟩ : ∃ x, f = 1000 * x := ⟨f / 1000, by unfold Fx.mag at hz; rw [if_neg hn] at hz; omega⟩
    exact Fx.whole_back (by omega) (by omega)
theorem wholeF_mul (x : Int) : wholeF (1000 * x) = true := by
  unfold wholeF; rw [Int.mul_tmod_right]; rfl
/-- A written Num: its token. -/
theorem next_numT {n f : Int} {suf : List UInt8} (h : Fx.saneB f = true) (hn : n = 0 ∨ (n = 1 ∧ wholeF f = true)) (hs : tw reg suf = 0) :
    nextV (numT n f ++ suf) 0 = (0, ⟨1, f, [], decide (n = 1), 0, (numT n f).length⟩) := by
  obtain ⟨p1, p2⟩ := print_num h
  unfold numT
  by_cases hc : n = 0 ∧ wholeF f = true
  · rw [if_pos hc]
    obtain ⟨w1, w2⟩ := whole_back' h hc.2
    have := next_num (t := Fx.printL f ++ [46, 48]) (suf := suf) (fun e => p1 (List.append_eq_nil_iff.1 e).1) (fun b hb => by
      rcases List.mem_append.1 hb with hb | hb
      · exact p2 b hb
      · simp only [List.mem_cons, List.not_mem_nil, or_false] at hb
        rcases hb with rfl | rfl <;> rfl) hs w2
    rw [this, w1]
    have hp : pointIn (Fx.printL f ++ [46, 48]) = true := by
      unfold pointIn
      have := idx_yes (Fx.printL f ++ [46, 48]) (List.mem_append_right _ (by decide))
      simpa using this
    rw [hp, hc.1]; rfl
  · rw [if_neg hc, List.append_nil]
    obtain ⟨b1, b2, -⟩ := Fx.print_back h
    rw [next_num p1 p2 hs b2, b1, point_print h]
    congr 3
    rcases hn with rfl | ⟨rfl, hw⟩
    · cases hw : wholeF f
      · rfl
      · exact absurd ⟨rfl, hw⟩ hc
    · rw [hw]; rfl
/-- A number of whole units, as itoa tells it. -/
theorem itoa_print {n : Int} (h0 : 0 ≤ n) (h1 : n ≤ 2147483) : Lib.itoa n = Fx.printL (1000 * n) := by
  have h : Fx.saneB (1000 * n) = true := by rw [Fx.sane_iff]; omega
  rw [Fx.print_plus h (by omega), show 1000 * n / 1000 = n by omega, show 1000 * n % 1000 = 0 by omega, show Fx.partT 0 = [] from rfl, List.append_nil]
theorem numT_whole (f : Int) : numT 1 f = Fx.printL f := by unfold numT; rw [if_neg (by simp), List.append_nil]

end Go.Proofs.YtkpagahnmbchjaaGreatDoor.Cx
