/-
  The law WriteParts answers true.
-/
import Derived.Test.YtkobcgemllcfoaaDoorWritePartsMath
import Derived.Test.YtkobcgemllcfoaaDoorCosFew
import Derived.Test.YtkobcgemllcfoaaDoorObjArg
namespace Go.Proofs.YtkobcgemllcfoaaDoor
open Go.RowKit Cx
set_option linter.unusedSimpArgs false
set_option linter.unusedVariables false

theorem wf_bdw {n : Int} (h : (Lit.int .i64 n).wf = true) : -9223372036854775808 ≤ n ∧ n ≤ 9223372036854775807 := by
  simpa [Lit.wf, IntKind.min, IntKind.max, IntKind.signed, IntKind.bits] using h

theorem ok_of : ∀ (N : Nat) (o : Ob), SizeOf.sizeOf o ≤ N → Ob.Words o → o.wt ≤ 4294967296 → Ob.Ok o := by
  intro N
  induction N with
  | zero => intro o h; cases o; simp at h
  | succ N ih =>
    intro o hN hw hwt
    cases hw with
    | mk k n f s l d hk hn hf hL hD =>
      obtain ⟨h0, h1⟩ := wf_bdw hn
      obtain ⟨g1, g2, g3⟩ := wt_len (.mk k n f s l d)
      simp only [Ob.s, Ob.l, Ob.d] at g1 g2 g3
      refine .mk _ _ _ _ _ _ h0 h1 (by omega) (by omega) (by omega) (fun x hx => ?_) (fun e he => ?_) (fun e he => ?_)
      · have q1 := wt_l (o := .mk k n f s l d) hx
        have q2 := sizeOf_l (o := .mk k n f s l d) hx
        obtain ⟨i, hi, rfl⟩ := List.mem_iff_getElem.1 hx
        exact ih _ (by omega) (hL i hi) (by omega)
      · have q1 := wt_d (o := .mk k n f s l d) he
        omega
      · have q1 := wt_d (o := .mk k n f s l d) he
        have q2 := sizeOf_d (o := .mk k n f s l d) he
        obtain ⟨i, hi, rfl⟩ := List.mem_iff_getElem.1 he
        exact ih _ (by omega) (hD i hi) (by omega)

theorem rowAt_blkW {P : Nat → Prop} {w : World} {b : Nat} {cs : List Value} {t : TypeId} (hP : P b) (hb : Blk w b cs.toArray t) (off : Nat) (row : List Value) (h : ∀ j v, row[j]? = some v → cs[off + j]? = some v) : RowAt (Cel P w) b off row := by
  intro j v hj
  refine ⟨hP, ?_⟩
  rw [hb.cell (off + j), List.getElem?_toArray]
  exact h j v hj
theorem lies_twoA {P : Nat → Prop} {w : World} {a c : Ob} {h g : Hd} {b : Nat} {t : TypeId} (hl : Lies (Cel P w) a h) (hl' : Lies (Cel P w) c g) (hP : P b) (hb : Blk w b (cells6 a h ++ cells6 c g).toArray t) :
    Lies (Cel P w) (twoA a c) ⟨some ⟨b, 0, none⟩, 2, none, 0⟩ := by
  refine .mk 5 0 0 ⟨#[]⟩ [a, c] [] _ (fun i => if i = 0 then h else g) (fun _ => h) ⟨Nat.le_of_lt (by simp [maxLen]), Nat.zero_le _, Nat.zero_le _⟩ (fun i hi => ?_) (fun i hi => ?_) (fun _ hi => absurd hi (Nat.not_lt_zero _)) (fun _ hi => absurd hi (Nat.not_lt_zero _)) (fun _ hi => absurd hi (Nat.not_lt_zero _))
  · match i, hi with
    | 0, _ => exact hl
    | 1, _ => exact hl'
  · match i, hi with
    | 0, _ => exact ⟨b, 0, rfl, rowAt_blkW hP hb _ _ fun j v hj => by
        have hj7 : j < 6 := (List.getElem?_eq_some_iff.1 hj).1
        rw [show 0 + 0 * 6 + j = j by omega, List.getElem?_append_left (by exact hj7)]; exact hj⟩
    | 1, _ => exact ⟨b, 0, rfl, rowAt_blkW hP hb _ _ fun j v hj => by
        rw [List.getElem?_append_right (by show 6 ≤ _; omega), show 0 + 1 * 6 + j - (cells6 a h).length = j by show 0 + 1 * 6 + j - 6 = j; omega]; exact hj⟩
theorem lies_twoD {P : Nat → Prop} {w : World} {a c : Ob} {h g : Hd} {b : Nat} {t : TypeId} (hl : Lies (Cel P w) a h) (hl' : Lies (Cel P w) c g) (hP : P b) (hb : Blk w b (cells7 (⟨#[65]⟩, a) h ++ cells7 (⟨#[66]⟩, c) g).toArray t) :
    Lies (Cel P w) (twoD a c) ⟨none, 0, some ⟨b, 0, none⟩, 2⟩ := by
  refine .mk 6 0 0 ⟨#[]⟩ [] [(⟨#[65]⟩, a), (⟨#[66]⟩, c)] _ (fun _ => h) (fun i => if i = 0 then h else g) ⟨Nat.zero_le _, Nat.le_of_lt (by simp [maxLen]), Nat.zero_le _⟩ (fun _ hi => absurd hi (Nat.not_lt_zero _)) (fun _ hi => absurd hi (Nat.not_lt_zero _)) (fun i hi => ?_) (fun i hi => ?_) (fun i hi => ?_)
  · match i, hi with
    | 0, _ => exact hl
    | 1, _ => exact hl'
  · match i, hi with
    | 0, _ => show 1 ≤ maxLen; decide
    | 1, _ => show 1 ≤ maxLen; decide
  · match i, hi with
    | 0, _ => exact ⟨b, 0, rfl, rowAt_blkW hP hb _ _ fun j v hj => by
        have hj7 : j < 7 := (List.getElem?_eq_some_iff.1 hj).1
        rw [show 0 + 0 * 7 + j = j by omega, List.getElem?_append_left (by exact hj7)]; exact hj⟩
    | 1, _ => exact ⟨b, 0, rfl, rowAt_blkW hP hb _ _ fun j v hj => by
        rw [List.getElem?_append_right (by show 7 ≤ _; omega), show 0 + 1 * 7 + j - (cells7 ((⟨#[65]⟩ : ByteArray), a) h).length = j by show 0 + 1 * 7 + j - 7 = j; omega]; exact hj⟩

theorem ok_two {a b : Ob} (ha : Ob.Ok a) (hb : Ob.Ok b) : Ob.Ok (twoA a b) ∧ Ob.Ok (twoD a b) := by
  refine ⟨.mk _ _ _ _ _ _ (by decide) (by decide) (by decide) (show 2 ≤ 4294967296 by decide) (by decide) (fun x h => ?_) (fun x h => by cases h) (fun x h => by cases h), .mk _ _ _ _ _ _ (by decide) (by decide) (by decide) (by decide) (show 2 ≤ 4294967296 by decide) (fun x h => by cases h) (fun x h => ?_) (fun x h => ?_)⟩
  · simp only [List.mem_cons, List.not_mem_nil, or_false] at h
    rcases h with rfl | rfl
    · exact ha
    · exact hb
  · simp only [List.mem_cons, List.not_mem_nil, or_false] at h
    rcases h with rfl | rfl
    · show (⟨#[65]⟩ : ByteArray).size ≤ 4294967296; decide
    · show (⟨#[66]⟩ : ByteArray).size ≤ 4294967296; decide
  · simp only [List.mem_cons, List.not_mem_nil, or_false] at h
    rcases h with rfl | rfl
    · exact ha
    · exact hb

theorem ba_cat (l m : List UInt8) : (⟨l.toArray⟩ : ByteArray) ++ ⟨m.toArray⟩ = ⟨(l ++ m).toArray⟩ := by
  apply ByteArray.ext
  rw [ByteArray.data_append]
  simp

/-- What Object answers of an object, of two in an array and of two in a dictionary: six letters. -/
theorem parts_let (a b : Ob) (ha : Ob.Ok a) (hb : Ob.Ok b) (hka : a.k ≠ 0) (hkb : b.k ≠ 0) (hwa : a.wt ≤ 1500) (hwb : b.wt ≤ 1500) :
    ∃ (X Y L D : ByteArray) (E F G : Int), (∀ P (h : Hd) w, Lies (Cel P w) a h → Fine w → Calls Tryd.prog 14 #[objV a h] w fun e w' => e = .returned (.tuple #[.string X, .int .i64 E]) ∧ Kept w w') ∧
      (∀ P (h : Hd) w, Lies (Cel P w) b h → Fine w → Calls Tryd.prog 14 #[objV b h] w fun e w' => e = .returned (.tuple #[.string Y, .int .i64 F]) ∧ Kept w w') ∧
      (∀ P (h : Hd) w, Lies (Cel P w) (twoA a b) h → Fine w → Calls Tryd.prog 14 #[objV (twoA a b) h] w fun e w' => e = .returned (.tuple #[.string L, .int .i64 G]) ∧ Kept w w') ∧
      (∀ P (h : Hd) w, Lies (Cel P w) (twoD a b) h → Fine w → Calls Tryd.prog 14 #[objV (twoD a b) h] w fun e w' => e = .returned (.tuple #[.string D, .int .i64 G]) ∧ Kept w w') ∧
      ((G = 0 ∧ E = 0 ∧ F = 0 ∧ X.size ≤ 300000 ∧ Y.size ≤ 300000 ∧ L = ⟨#[91]⟩ ++ X ++ ⟨#[32]⟩ ++ Y ++ ⟨#[93]⟩ ∧ D = ⟨#[60, 60, 47, 65, 32]⟩ ++ X ++ ⟨#[32, 47, 66, 32]⟩ ++ Y ++ ⟨#[62, 62]⟩) ∨ G = 5 ∨ (G ≠ 0 ∧ G ≠ 5 ∧ (E ≠ 0 ∨ (E = 0 ∧ F ≠ 0)))) := by
  obtain ⟨o1, o2⟩ := ok_two ha hb
  have ta := text_le _ a (Nat.le_refl _) ha
  have tb := text_le _ b (Nat.le_refl _) hb
  have t1 := text_le _ (twoA a b) (Nat.le_refl _) o1
  have t2 := text_le _ (twoD a b) (Nat.le_refl _) o2
  have w1 : (twoA a b).wt ≤ 3100 := by unfold twoA; rw [wt_eq]; simp only [Ob.s, Ob.l, Ob.d, wtL, wtD]; show 1 + 0 + (a.wt + (b.wt + 0)) + 0 ≤ _; omega
  have w2 : (twoD a b).wt ≤ 3100 := by unfold twoD; rw [wt_eq]; simp only [Ob.s, Ob.l, Ob.d, wtL, wtD]; show 1 + 0 + 0 + (1 + a.wt + (1 + b.wt + 0)) ≤ _; omega
  refine ⟨⟨(objT a).toArray⟩, ⟨(objT b).toArray⟩, ⟨(objT (twoA a b)).toArray⟩, ⟨(objT (twoD a b)).toArray⟩, objE a, objE b, twoG a b, fun P h w hl hf => ObjectW_any P a h w hl hf (fun _ => ha) (fun _ => by omega), fun P h w hl hf => ObjectW_any P b h w hl hf (fun _ => hb) (fun _ => by omega), fun P h w hl hf => ?_, fun P h w hl hf => ?_, ?_⟩
  · have := ObjectW_any P (twoA a b) h w hl hf (fun _ => o1) (fun _ => by omega)
    rw [twoA_E] at this; exact this
  · have := ObjectW_any P (twoD a b) h w hl hf (fun _ => o2) (fun _ => by omega)
    rw [twoD_E a b hka hkb] at this; exact this
  · by_cases hG : twoG a b = 0
    · refine .inl ⟨hG, (twoG_good hG).1, (twoG_good hG).2, ?_, ?_, ?_, ?_⟩
      · rw [objT_good (twoG_good hG).1]; show a.text.toArray.size ≤ _; rw [List.size_toArray]; omega
      · rw [objT_good (twoG_good hG).2]; show b.text.toArray.size ≤ _; rw [List.size_toArray]; omega
      · rw [twoA_T hG]
        show _ = (⟨[91].toArray⟩ : ByteArray) ++ _ ++ ⟨[32].toArray⟩ ++ _ ++ ⟨[93].toArray⟩
        rw [ba_cat, ba_cat, ba_cat, ba_cat]
        simp
      · rw [twoD_T hka hkb hG]
        show _ = (⟨[60, 60, 47, 65, 32].toArray⟩ : ByteArray) ++ _ ++ ⟨[32, 47, 66, 32].toArray⟩ ++ _ ++ ⟨[62, 62].toArray⟩
        rw [ba_cat, ba_cat, ba_cat, ba_cat]
    · by_cases h5 : twoG a b = 5
      · exact .inr (.inl h5)
      · refine .inr (.inr ⟨hG, h5, ?_⟩)
        by_cases hE : objE a = 0
        · exact .inr ⟨hE, twoG_bad hG h5 hE⟩
        · exact .inl hE

set_option maxRecDepth 100000 in
set_option maxHeartbeats 4000000 in
theorem WriteParts_walk (a : Ob) (ha : Hd) (b : Ob) (hb : Hd) (w : World) (hf : Fine w) (hla : Lies (Cel (fun _ => True) w) a ha) (hfa : Ob.Fits 140737488355328 a) (hwa : Ob.Words a) (hlb : Lies (Cel (fun _ => True) w) b hb) (hfb : Ob.Fits 140737488355328 b) (hwb : Ob.Words b) :
    Calls Tryd.prog 4 #[objV a ha, objV b hb] w fun e w' => e = .returned (.bool true) ∧ Kept w w' := by
  have HF := Lib.hid hf
  have LA := Lib.hid hla
  have LB := Lib.hid hlb
  have FA := Lib.hid (fun w' (k : Kept w w') => Few_any _ a ha 1500 w' (hla.kept k) hfa (by omega) (by omega))
  have FBB := Lib.hid (fun w' (k : Kept w w') => Few_any _ b hb 1500 w' (hlb.kept k) hfb (by omega) (by omega))
  have WA := Lib.hid (fun h => few_le a 1500 0 h)
  have WB := Lib.hid (fun h => few_le b 1500 0 h)
  have OA := Lib.hid (ok_of _ a (Nat.le_refl _) hwa)
  have OB := Lib.hid (ok_of _ b (Nat.le_refl _) hwb)
  obtain ⟨pa, ca, qa, ea⟩ := ha
  obtain ⟨pb, cb, qb, eb⟩ := hb
  have HX := Lib.hid (In.fresh' (k := w.heap.size + 1) (In.fresh (In.start w) #[.int .i64 a.k, .int .i64 a.n, .int .i64 a.f, .string a.s, .slice pa a.l.length ca, .slice qa a.d.length ea] 26) #[.int .i64 b.k, .int .i64 b.n, .int .i64 b.f, .string b.s, .slice pb b.l.length cb, .slice qb b.d.length eb] 26 (by simp))
  have KX := Lib.hid (In.kW HX.out)
  have AW := Lib.hid (awake5_any _ (hf.kept KX.out))
  clear hf hla hlb hfa hfb hwa hwb
  unfold objV at FA FBB ⊢
  simp only [] at FA FBB
  obtain ⟨ya, hya⟩ : ∃ ya, ya = decide (0 ≤ few a 1500 0) := ⟨_, rfl⟩
  obtain ⟨yb, hyb⟩ : ∃ yb, yb = decide (0 ≤ few b 1500 0) := ⟨_, rfl⟩
  rw [← hya] at FA
  rw [← hyb] at FBB
  have HYA := Lib.hid hya
  have HYB := Lib.hid hyb
  clear hya hyb
  go_enter Tryd.func4, Tryd.ntmps4
  go_wp2_with fail
  (with_reducible refine AW.out.mono ?_)
  rintro e w1 ⟨rfl, hk1⟩
  have HX1 := Lib.hid (HX.out.kept hk1)
  have K1 := Lib.hid (In.kW HX1.out)
  obtain ⟨t0, t1, t2, t3, t4, t5⟩ := (HX1.out.mem (List.mem_cons_of_mem _ List.mem_cons_self)).cells6
  obtain ⟨v0, v1, v2, v3, v4, v5⟩ := (HX1.out.mem List.mem_cons_self).cells6
  clear hk1
  cases ya
  · go_wp2_with fail
    (with_reducible refine (FA.out _ K1.out).mono ?_)
    rintro e w2 ⟨rfl, hk2⟩
    have K2 := Lib.hid (K1.out.trans hk2)
    clear hk2
    go_wp2_with fail
    go_ret
    exact ⟨rfl, K2.out⟩
  · go_wp2_with fail
    (with_reducible refine (FA.out _ K1.out).mono ?_)
    rintro e w2 ⟨rfl, hk2⟩
    have HX2 := Lib.hid (HX1.out.kept hk2)
    have K2 := Lib.hid (In.kW HX2.out)
    have WA1 := Lib.hid (WA.out (of_decide_eq_true HYA.out.symm))
    clear t0 t1 t2 t3 t4 t5 v0 v1 v2 v3 v4 v5
    obtain ⟨t0, t1, t2, t3, t4, t5⟩ := (HX2.out.mem (List.mem_cons_of_mem _ List.mem_cons_self)).cells6
    obtain ⟨v0, v1, v2, v3, v4, v5⟩ := (HX2.out.mem List.mem_cons_self).cells6
    clear hk2
    cases yb
    · go_wp2_with fail
      (with_reducible refine (FBB.out _ K2.out).mono ?_)
      rintro e w3 ⟨rfl, hk3⟩
      have K3 := Lib.hid (K2.out.trans hk3)
      clear hk3
      go_wp2_with fail
      go_ret
      exact ⟨rfl, K3.out⟩
    · go_wp2_with fail
      (with_reducible refine (FBB.out _ K2.out).mono ?_)
      rintro e w3 ⟨rfl, hk3⟩
      have HX3 := Lib.hid (HX2.out.kept hk3)
      have K3 := Lib.hid (In.kW HX3.out)
      have WB1 := Lib.hid (WB.out (of_decide_eq_true HYB.out.symm))
      clear t0 t1 t2 t3 t4 t5 v0 v1 v2 v3 v4 v5
      obtain ⟨t0, t1, t2, t3, t4, t5⟩ := (HX3.out.mem (List.mem_cons_of_mem _ List.mem_cons_self)).cells6
      obtain ⟨v0, v1, v2, v3, v4, v5⟩ := (HX3.out.mem List.mem_cons_self).cells6
      clear hk3
      by_cases hka : a.k = 0
      · have e1 : (a.k == 0) = true := by rw [hka]; rfl
        go_wp2_with fail
        go_ret
        exact ⟨rfl, K3.out⟩
      · have e1 : (a.k == 0) = false := beq_eq_false_iff_ne.2 hka
        by_cases hkb : b.k = 0
        · have e2 : (b.k == 0) = true := by rw [hkb]; rfl
          have HKA := Lib.hid hka
          clear hka
          go_wp2_with fail
          go_ret
          exact ⟨rfl, K3.out⟩
        · have e2 : (b.k == 0) = false := beq_eq_false_iff_ne.2 hkb
          obtain ⟨X, Y, L, D, E, F, G, cX, cY, cL, cD, hall⟩ := parts_let a b (OA.out (by have := WA1.out; omega)) (OB.out (by have := WB1.out; omega)) hka hkb (by have := WA1.out; omega) (by have := WB1.out; omega)
          have CX := Lib.hid (show ∀ w', Kept w w' → Calls Tryd.prog 14 #[.agg #[.int .i64 a.k, .int .i64 a.n, .int .i64 a.f, .string a.s, .slice pa a.l.length ca, .slice qa a.d.length ea]] w' fun e w'' => e = .returned (.tuple #[.string X, .int .i64 E]) ∧ Kept w' w'' from fun w' k => by
            have z := cX (fun _ => True) ⟨pa, ca, qa, ea⟩ w' (LA.out.kept k) (HF.out.kept k)
            simp only [objV] at z
            exact z)
          have CY := Lib.hid (show ∀ w', Kept w w' → Calls Tryd.prog 14 #[.agg #[.int .i64 b.k, .int .i64 b.n, .int .i64 b.f, .string b.s, .slice pb b.l.length cb, .slice qb b.d.length eb]] w' fun e w'' => e = .returned (.tuple #[.string Y, .int .i64 F]) ∧ Kept w' w'' from fun w' k => by
            have z := cY (fun _ => True) ⟨pb, cb, qb, eb⟩ w' (LB.out.kept k) (HF.out.kept k)
            simp only [objV] at z
            exact z)
          have CL := Lib.hid (show ∀ w' N, Kept w w' → N = w'.heap.size → Calls Tryd.prog 14 #[.agg #[.int .i64 5, .int .i64 0, .int .i64 0, .string ⟨#[]⟩, .slice (some ⟨N, 0, none⟩) 2 2, .slice none 0 0]] (w'.alloc (.cells #[.int .i64 a.k, .int .i64 a.n, .int .i64 a.f, .string a.s, .slice pa a.l.length ca, .slice qa a.d.length ea, .int .i64 b.k, .int .i64 b.n, .int .i64 b.f, .string b.s, .slice pb b.l.length cb, .slice qb b.d.length eb] 26)) (fun e w'' => e = .returned (.tuple #[.string L, .int .i64 G]) ∧ Kept w' w'') from fun w' N k hN => by
            subst hN
            have k1 := k.alloc #[.int .i64 a.k, .int .i64 a.n, .int .i64 a.f, .string a.s, .slice pa a.l.length ca, .slice qa a.d.length ea, .int .i64 b.k, .int .i64 b.n, .int .i64 b.f, .string b.s, .slice pb b.l.length cb, .slice qb b.d.length eb] 26
            have z := (cL (fun _ => True) ⟨some ⟨w'.heap.size, 0, none⟩, 2, none, 0⟩ _ (lies_twoA (LA.out.kept k1) (LB.out.kept k1) trivial (Blk.fresh w' _ 26)) (HF.out.kept k1))
            simp only [objV, twoA, Ob.k, Ob.n, Ob.f, Ob.s, Ob.l, Ob.d, List.length_cons, List.length_nil] at z
            exact z.mono fun _ _ ⟨he, hk⟩ => ⟨he, ((Kept.refl w').alloc _ _).trans hk⟩)
          have CD := Lib.hid (show ∀ w' N, Kept w w' → N = w'.heap.size → Calls Tryd.prog 14 #[.agg #[.int .i64 6, .int .i64 0, .int .i64 0, .string ⟨#[]⟩, .slice none 0 0, .slice (some ⟨N, 0, none⟩) 2 2]] (w'.alloc (.cells #[.string ⟨#[65]⟩, .int .i64 a.k, .int .i64 a.n, .int .i64 a.f, .string a.s, .slice pa a.l.length ca, .slice qa a.d.length ea, .string ⟨#[66]⟩, .int .i64 b.k, .int .i64 b.n, .int .i64 b.f, .string b.s, .slice pb b.l.length cb, .slice qb b.d.length eb] 36)) (fun e w'' => e = .returned (.tuple #[.string D, .int .i64 G]) ∧ Kept w' w'') from fun w' N k hN => by
            subst hN
            have k1 := k.alloc #[.string ⟨#[65]⟩, .int .i64 a.k, .int .i64 a.n, .int .i64 a.f, .string a.s, .slice pa a.l.length ca, .slice qa a.d.length ea, .string ⟨#[66]⟩, .int .i64 b.k, .int .i64 b.n, .int .i64 b.f, .string b.s, .slice pb b.l.length cb, .slice qb b.d.length eb] 36
            have z := (cD (fun _ => True) ⟨none, 0, some ⟨w'.heap.size, 0, none⟩, 2⟩ _ (lies_twoD (LA.out.kept k1) (LB.out.kept k1) trivial (Blk.fresh w' _ 36)) (HF.out.kept k1))
            simp only [objV, twoD, Ob.k, Ob.n, Ob.f, Ob.s, Ob.l, Ob.d, List.length_cons, List.length_nil] at z
            exact z.mono fun _ _ ⟨he, hk⟩ => ⟨he, ((Kept.refl w').alloc _ _).trans hk⟩)
          have HALL := Lib.hid hall
          clear cX cY cL cD hall hka hkb
          go_wp2_with fail
          (with_reducible refine (CX.out _ K3.out).mono ?_)
          rintro e w4 ⟨rfl, hk4⟩
          have HX4 := Lib.hid (HX3.out.kept hk4)
          have K4 := Lib.hid (In.kW HX4.out)
          clear hk4 t0 t1 t2 t3 t4 t5 v0 v1 v2 v3 v4 v5
          obtain ⟨t0, t1, t2, t3, t4, t5⟩ := (HX4.out.mem (List.mem_cons_of_mem _ List.mem_cons_self)).cells6
          obtain ⟨v0, v1, v2, v3, v4, v5⟩ := (HX4.out.mem List.mem_cons_self).cells6
          go_wp2_with fail
          (with_reducible refine (CY.out _ K4.out).mono ?_)
          rintro e w5 ⟨rfl, hk5⟩
          have HX5 := Lib.hid (HX4.out.kept hk5)
          have K5 := Lib.hid (In.kW HX5.out)
          clear hk5 t0 t1 t2 t3 t4 t5 v0 v1 v2 v3 v4 v5
          obtain ⟨t0, t1, t2, t3, t4, t5⟩ := (HX5.out.mem (List.mem_cons_of_mem _ List.mem_cons_self)).cells6
          obtain ⟨v0, v1, v2, v3, v4, v5⟩ := (HX5.out.mem List.mem_cons_self).cells6
          have z0 := (HX5.out.mem (List.mem_cons_of_mem _ List.mem_cons_self)).lt
          have z1 := (HX5.out.mem List.mem_cons_self).lt
          go_wp2_with fail
          (with_reducible refine (CL.out _ _ K5.out rfl).mono ?_)
          rintro e w6 ⟨rfl, hk6⟩
          have HX6 := Lib.hid (HX5.out.kept hk6)
          have K6 := Lib.hid (In.kW HX6.out)
          clear hk6 t0 t1 t2 t3 t4 t5 v0 v1 v2 v3 v4 v5 z0 z1
          obtain ⟨t0, t1, t2, t3, t4, t5⟩ := (HX6.out.mem (List.mem_cons_of_mem _ List.mem_cons_self)).cells6
          obtain ⟨v0, v1, v2, v3, v4, v5⟩ := (HX6.out.mem List.mem_cons_self).cells6
          have z0 := (HX6.out.mem (List.mem_cons_of_mem _ List.mem_cons_self)).lt
          have z1 := (HX6.out.mem List.mem_cons_self).lt
          go_wp2_with fail
          (with_reducible refine (CD.out _ _ K6.out rfl).mono ?_)
          rintro e w7 ⟨rfl, hk7⟩
          have HX7 := Lib.hid (HX6.out.kept hk7)
          have K7 := Lib.hid (In.kW HX7.out)
          clear hk7 t0 t1 t2 t3 t4 t5 v0 v1 v2 v3 v4 v5 z0 z1
          obtain ⟨t0, t1, t2, t3, t4, t5⟩ := (HX7.out.mem (List.mem_cons_of_mem _ List.mem_cons_self)).cells6
          obtain ⟨v0, v1, v2, v3, v4, v5⟩ := (HX7.out.mem List.mem_cons_self).cells6
          clear e1 e2
          rcases HALL.out with ⟨rfl, rfl, rfl, hX, hY, hL, hD⟩ | rfl | ⟨h0, h5, h⟩
          · have l1 : keq L (⟨#[91]⟩ ++ X ++ ⟨#[32]⟩ ++ Y ++ ⟨#[93]⟩) = true := by rw [hL]; exact keq_self _
            have l2 : keq D (⟨#[60, 60, 47, 65, 32]⟩ ++ X ++ ⟨#[32, 47, 66, 32]⟩ ++ Y ++ ⟨#[62, 62]⟩) = true := by rw [hD]; exact keq_self _
            clear hL hD
            unfold keq at l1 l2
            have n1 : ¬ 9223372036854775807 < 1 + X.size := by omega
            have n2 : ¬ 9223372036854775807 < 1 + X.size + 1 := by omega
            have n3 : ¬ 9223372036854775807 < 1 + X.size + 1 + Y.size := by omega
            have n4 : ¬ 9223372036854775807 < 1 + X.size + 1 + Y.size + 1 := by omega
            have m1 : ¬ 9223372036854775807 < 5 + X.size := by omega
            have m2 : ¬ 9223372036854775807 < 5 + X.size + 4 := by omega
            have m3 : ¬ 9223372036854775807 < 5 + X.size + 4 + Y.size := by omega
            have m4 : ¬ 9223372036854775807 < 5 + X.size + 4 + Y.size + 2 := by omega
            clear hX hY
            go_wp2_with fail
            go_ret
            exact ⟨by simp_all, K7.out⟩
          · go_wp2_with fail
            go_ret
            exact ⟨rfl, K7.out⟩
          · have g0 : (G != 0) = true := bne_iff_ne.2 h0
            have g5 : (G == 5) = false := beq_eq_false_iff_ne.2 h5
            have gg : (G == G) = true := beq_self_eq_true _
            clear h0 h5
            rcases h with h | ⟨rfl, h⟩
            · have e0 : (E != 0) = true := bne_iff_ne.2 h
              clear h
              go_wp2_with fail
              go_ret
              exact ⟨rfl, K7.out⟩
            · have e0 : (F != 0) = true := bne_iff_ne.2 h
              clear h
              go_wp2_with fail
              go_ret
              exact ⟨rfl, K7.out⟩

end Go.Proofs.YtkobcgemllcfoaaDoor
