/-
  The law WriteParts answers true.
-/
import Derived.Test.YtkpagahnmbchjaaGreatDoorWritePartsMath
import Derived.Test.YtkpagahnmbchjaaGreatDoorCosFew
import Derived.Test.YtkpagahnmbchjaaGreatDoorObjArg
namespace Go.Proofs.YtkpagahnmbchjaaGreatDoor
open Go.RowKit Cx
set_option linter.unusedSimpArgs false
set_option linter.unusedVariables false

theorem wf_bdw {n : Int} (h : (Lit.int .i64 n).wf = true) : -9223372036854775808 ≤ n ∧ n ≤ 9223372036854775807 := by
  simpa [Lit.wf, IntKind.min, IntKind.max, IntKind.signed, IntKind.bits] using h

theorem ok_of : ∀ (N : Nat) (o : Ob), SizeOf.sizeOf o ≤ N → Ob.Words o → o.wt ≤ 4294967296 → Ob.Ok o := by
  intro N
  induction N with
  | zero => intro o h; cases o; simp at h
  | succ N ih =>
    intro o hN hw hwt
    cases hw with
    | mk k n f s l d hk hn hf hL hD =>
      obtain ⟨h0, h1⟩ := wf_bdw hn
      obtain ⟨g1, g2, g3⟩ := wt_len (.mk k n f s l d)
      simp only [Ob.s, Ob.l, Ob.d] at g1 g2 g3
      refine .mk _ _ _ _ _ _ h0 h1 (by omega) (by omega) (by omega) (fun x hx => ?_) (fun e he => ?_) (fun e he => ?_)
      · have q1 := wt_l (o := .mk k n f s l d) hx
        have q2 := sizeOf_l (o := .mk k n f s l d) hx
        obtain ⟨i, hi, rfl⟩ := List.mem_iff_getElem.1 hx
        exact ih _ (by omega) (hL i hi) (by omega)
      · have q1 := wt_d (o := .mk k n f s l d) he
        omega
      · have q1 := wt_d (o := .mk k n f s l d) he
        have q2 := sizeOf_d (o := .mk k n f s l d) he
        obtain ⟨i, hi, rfl⟩ := List.mem_iff_getElem.1 he
        exact ih _ (by omega) (hD i hi) (by omega)

theorem rowAt_blkW {P : Nat → Prop} {w : World} {b : Nat} {cs : List Value} {t : TypeId} (hP : P b) (hb : Blk w b cs.toArray t) (off : Nat) (row : List Value) (h : ∀ j v, row[j]? = some v → cs[off + j]? = some v) : RowAt (Cel P w) b off row := by
  intro j v hj
  refine ⟨hP, ?_⟩
  rw [hb.cell (off + j), List.getElem?_toArray]
  exact h j v hj
theorem lies_twoA {P : Nat → Prop} {w : World} {a c : Ob} {h g : Hd} {b : Nat} {t : TypeId} (hl : Lies (Cel P w) a h) (hl' : Lies (Cel P w) c g) (hP : P b) (hb : Blk w b (cells6 a h ++ cells6 c g).toArray t) :
    Lies (Cel P w) (twoA a c) ⟨some ⟨b, 0, none⟩, 2, none, 0⟩ := by
  refine .mk 5 0 0 ⟨#[]⟩ [a, c] [] _ (fun i => if i = 0 then h else g) (fun _ => h) ⟨Nat.le_of_lt (by simp [maxLen]), Nat.zero_le _, Nat.zero_le _⟩ (fun i hi => ?_) (fun i hi => ?_) (fun _ hi => absurd hi (Nat.not_lt_zero _)) (fun _ hi => absurd hi (Nat.not_lt_zero _)) (fun _ hi => absurd hi (Nat.not_lt_zero _))
  · match i, hi with
    | 0, _ => exact hl
    | 1, _ => exact hl'
  · match i, hi with
    | 0, _ => exact ⟨b, 0, rfl, rowAt_blkW hP hb _ _ fun j v hj => by
        have hj7 : j < 6 := (List.getElem?_eq_some_iff.1 hj).1
        rw [show 0 + 0 * 6 + j = j by omega, List.getElem?_append_left (by exact hj7)]; exact hj⟩
    | 1, _ => exact ⟨b, 0, rfl, rowAt_blkW hP hb _ _ fun j v hj => by
        rw [List.getElem?_append_right (by show 6 ≤ _; omega), show 0 + 1 * 6 + j - (cells6 a h).length = j by show 0 + 1 * 6 + j - 6 = j; omega]; exact hj⟩
theorem lies_twoD {P : Nat → Prop} {w : World} {a c : Ob} {h g : Hd} {b : Nat} {t : TypeId} (hl : Lies (Cel P w) a h) (hl' : Lies (Cel P w) c g) (hP : P b) (hb : Blk w b (cells7 (⟨#[65]⟩, a) h ++ cells7 (⟨#[66]⟩, c) g).toArray t) :
    Lies (Cel P w) (twoD a c) ⟨none, 0, some ⟨b, 0, none⟩, 2⟩ := by
  refine .mk 6 0 0 ⟨#[]⟩ [] [(⟨#[65]⟩, a), (⟨#[66]⟩, c)] _ (fun _ => h) (fun i => if i = 0 then h else g) ⟨Nat.zero_le _, Nat.le_of_lt (by simp [maxLen]), Nat.zero_le _⟩ (fun _ hi => absurd hi (Nat.not_lt_zero _)) (fun _ hi => absurd hi (Nat.not_lt_zero _)) (fun i hi => ?_) (fun i hi => ?_) (fun i hi => ?_)
  · match i, hi with
    | 0, _ => exact hl
    | 1, _ => exact hl'
  · match i, hi with
    | 0, _ => show 1 ≤ maxLen; decide
    | 1, _ => show 1 ≤ maxLen; decide
  · match i, hi with
    | 0, _ => exact ⟨b, 0, rfl, rowAt_blkW hP hb _ _ fun j v hj => by
        have hj7 : j < 7 := (List.getElem?_eq_some_iff.1 hj).1
        rw [show 0 + 0 * 7 + j = j by omega, List.getElem?_append_left (by exact hj7)]; exact hj⟩
    | 1, _ => exact ⟨b, 0, rfl, rowAt_blkW hP hb _ _ fun j v hj => by
        rw [List.getElem?_append_right (by show 7 ≤ _; omega), show 0 + 1 * 7 + j - (cells7 ((⟨#[65]⟩ : ByteArray), a) h).length = j by show 0 + 1 * 7 + j - 7 = j; omega]; exact hj⟩

theorem ok_two {a b : Ob} (ha : Ob.Ok a) (hb : Ob.Ok b) : Ob.Ok (twoA a b) ∧ Ob.Ok (twoD a b) := by
  refine ⟨.mk _ _ _ _ _ _ (by decide) (by decide) (by decide) (show 2 ≤ 4294967296 by decide) (by decide) (fun x h => ?_) (fun x h => by cases h) (fun x h => by cases h), .mk _ _ _ _ _ _ (by decide) (by decide) (by decide) (by decide) (show 2 ≤ 4294967296 by decide) (fun x h => by cases h) (fun x h => ?_) (fun x h => ?_)⟩
  · simp only [List.mem_cons, List.not_mem_nil, or_false] at h
    rcases h with rfl | rfl
    · exact ha
    · exact hb
  · simp only [List.mem_cons, List.not_mem_nil, or_false] at h
    rcases h with rfl | rfl
    · show (⟨#[65]⟩ : ByteArray).size ≤ 4294967296; decide
    · show (⟨#[66]⟩ : ByteArray).size ≤ 4294967296; decide
  · simp only [List.mem_cons, List.not_mem_nil, or_false] at h
    rcases h with rfl | rfl
    · exact ha
    · exact hb

theorem ba_cat (l m : List UInt8) : (⟨l.toArray⟩ : ByteArray) ++ ⟨m.toArray⟩ = ⟨(l ++ m).toArray⟩ := by
  apply ByteArray.ext
  rw [ByteArray.data_append]
  simp

/-- What Object answers of an object, of two in an array and of two in a dictionary: six letters. -/
theorem parts_let (a b : Ob) (ha : Ob.Ok a) (hb : Ob.Ok b) (hka : a.k ≠ 0) (hkb : b.k ≠ 0) (hwa : a.wt ≤ 1500) (hwb : b.wt ≤ 1500) :
    ∃ (X Y L D : ByteArray) (E F G : Int), (∀ P (h : Hd) w, Lies (Cel P w) a h → Fine w → Calls Tryz.prog 29 #[objV a h] w fun e w' => e = .returned (.tuple #[.string X, .int .i64 E]) ∧ Kept w w') ∧
      (∀ P (h : Hd) w, Lies (Cel P w) b h → Fine w → Calls Tryz.prog 29 #[objV b h] w fun e w' => e = .returned (.tuple #[.string Y, .int .i64 F]) ∧ Kept w w') ∧
      (∀ P (h : Hd) w, Lies (Cel P w) (twoA a b) h → Fine w → Calls Tryz.prog 29 #[objV (twoA a b) h] w fun e w' => e = .returned (.tuple #[.string L, .int .i64 G]) ∧ Kept w w') ∧
      (∀ P (h : Hd) w, Lies (Cel P w) (twoD a b) h → Fine w → Calls Tryz.prog 29 #[objV (twoD a b) h] w fun e w' => e = .returned (.tuple #[.string D, .int .i64 G]) ∧ Kept w w') ∧
      ((G = 0 ∧ E = 0 ∧ F = 0 ∧ X.size ≤ 300000 ∧ Y.size ≤ 300000 ∧ L = ⟨#[91]⟩ ++ X ++ ⟨#[32]⟩ ++ Y ++ ⟨#[93]⟩ ∧ D = ⟨#[60, 60, 47, 65, 32]⟩ ++ X ++ ⟨#[32, 47, 66, 32]⟩ ++ Y ++ ⟨#[62, 62]⟩) ∨ G = 5 ∨ (G ≠ 0 ∧ G ≠ 5 ∧ (E ≠ 0 ∨ (E = 0 ∧ F ≠ 0)))) := by
  obtain ⟨o1, o2⟩ := ok_two ha hb
  have ta := text_le _ a (Nat.le_refl _) ha
  have tb := text_le _ b (Nat.le_refl _) hb
  have t1 := text_le _ (twoA a b) (Nat.le_refl _) o1
  have t2 := text_le _ (twoD a b) (Nat.le_refl _) o2
  have w1 : (twoA a b).wt ≤ 3100 := by unfold twoA; rw [wt_eq]; simp only [Ob.s, Ob.l, Ob.d, wtL, wtD]; show 1 + 0 + (a.wt + (b.wt + 0)) + 0 ≤ _; omega
  have w2 : (twoD a b).wt ≤ 3100 := by unfold twoD; rw [wt_eq]; simp only [Ob.s, Ob.l, Ob.d, wtL, wtD]; show 1 + 0 + 0 + (1 + a.wt + (1 + b.wt + 0)) ≤ _; omega
  refine ⟨⟨(objT a).toArray⟩, ⟨(objT b).toArray⟩, ⟨(objT (twoA a b)).toArray⟩, ⟨(objT (twoD a b)).toArray⟩, objE a, objE b, twoG a b, fun P h w hl hf => ObjectW_any P a h w hl hf (fun _ => ha) (fun _ => by omega), fun P h w hl hf => ObjectW_any P b h w hl hf (fun _ => hb) (fun _ => by omega), fun P h w hl hf => ?_, fun P h w hl hf => ?_, ?_⟩
  · have := ObjectW_any P (twoA a b) h w hl hf (fun _ => o1) (fun _ => by omega)
    rw [twoA_E] at this; exact this
  · have := ObjectW_any P (twoD a b) h w hl hf (fun _ => o2) (fun _ => by omega)
    rw [twoD_E a b hka hkb] at this; exact this
  · by_cases hG : twoG a b = 0
    · refine .inl ⟨hG, (twoG_good hG).1, (twoG_good hG).2, ?_, ?_, ?_, ?_⟩
      · rw [objT_good (twoG_good hG).1]; show a.text.toArray.size ≤ _; rw [List.size_toArray]; omega
      · rw [objT_good (twoG_good hG).2]; show b.text.toArray.size ≤ _; rw [List.size_toArray]; omega
      · rw [twoA_T hG]
        show _ = (⟨[91].toArray⟩ : ByteArray) ++ _ ++ ⟨[32].toArray⟩ ++ _ ++ ⟨[93].toArray⟩
        rw [ba_cat, ba_cat, ba_cat, ba_cat]
        simp
      · rw [twoD_T hka hkb hG]
        show _ = (⟨[60, 60, 47, 65, 32].toArray⟩ : ByteArray) ++ _ ++ ⟨[32, 47, 66, 32].toArray⟩ ++ _ ++ ⟨[62, 62].toArray⟩
        rw [ba_cat, ba_cat, ba_cat, ba_cat]
    · by_cases h5 : twoG a b = 5
      · exact .inr (.inl h5)
      · refine .inr (.inr ⟨hG, h5, ?_⟩)
        by_cases hE : objE a = 0
        · exact .inr ⟨hE, twoG_bad hG h5 hE⟩
        · exact .inl hE

end Go.Proofs.YtkpagahnmbchjaaGreatDoor
