/-
  Operators that are few and may be written: what their text is, and that it is parsed as they were.
-/
import Derived.Test.YtkpagahnmbchjaaGreatDoorOpsBackMath
import Derived.Test.YtkpagahnmbchjaaGreatDoorOpsW
import Derived.Test.YtkpagahnmbchjaaGreatDoorOpsL
import Derived.Test.YtkpagahnmbchjaaGreatDoorWritePartsWalk
namespace Go.Proofs.YtkpagahnmbchjaaGreatDoor
open Go.RowKit Cx
set_option linter.unusedSimpArgs false
set_option linter.unusedVariables false

theorem fits_ok : ∀ (N : Nat) (x : Ob), SizeOf.sizeOf x ≤ N → Ob.Ok x → Ob.Fits 4294967296 x := by
  intro N
  induction N with
  | zero => intro x h; cases x; simp at h
  | succ N ih =>
    intro x hN hx
    cases hx with
    | mk k n f s l d h0 h1 hs hl hd hL hK hD =>
      refine .mk _ _ _ _ _ _ hs hl hd (fun z hz => ?_) hK (fun e he => ?_)
      · have q2 := sizeOf_l (o := .mk k n f s l d) hz
        exact ih _ (by omega) (hL z hz)
      · have q2 := sizeOf_d (o := .mk k n f s l d) he
        exact ih _ (by omega) (hD e he)

/-- Operators that came in, and are few. -/
structure FewW (l : List Ob) : Prop where
  op : ∀ o ∈ l, o = opO o.s o.l
  words : ∀ o ∈ l, ∀ x ∈ o.l, Ob.Words x
  wt : wtL l ≤ 2000

theorem FewW.ok {l : List Ob} (h : FewW l) {o x : Ob} (ho : o ∈ l) (hx : x ∈ o.l) : Ob.Ok x ∧ x.text.length + 50 ≤ 200 * x.wt := by
  have h1 := wtL_mem ho
  have h2 := wt_l hx
  have h3 := h.wt
  have hk := ok_of _ x (Nat.le_refl _) (h.words o ho x hx) (by omega)
  exact ⟨hk, text_le _ x (Nat.le_refl _) hk⟩
theorem FewW.writes {l : List Ob} (h : FewW l) : WritesOk l := fun o ho => by
  have h1 := wtL_mem ho
  have h3 := h.wt
  have h4 := (wt_len o).2.2
  refine ⟨by omega, fun x hx => ?_⟩
  obtain ⟨hk, ht⟩ := h.ok ho hx
  have h2 := wt_l hx
  exact ⟨fits_ok _ x (Nat.le_refl _) hk, fun _ => ⟨hk, by omega⟩⟩

theorem argE_ok : ∀ (xs : List Ob), argE xs = 0 → ∀ x ∈ xs, OkA x
  | [], _, x, hx => by cases hx
  | y :: r, h, x, hx => by
    rw [argE] at h
    by_cases h1 : y.refs 0 = 1
    · rw [if_pos h1] at h; exact absurd h (by decide)
    · rw [if_neg h1] at h
      by_cases h2 : (objTE y).1 = 0
      · rw [if_neg (by rw [h2]; decide)] at h
        rcases List.mem_cons.1 hx with rfl | hx
        · unfold objTE at h2
          by_cases hs : x.sane 0 = 0
          · rw [if_neg (by rw [hs]; decide)] at h2
            by_cases h8 : x.k = 8
            · rw [if_pos h8] at h2; exact absurd h2 (by decide)
            · exact ⟨hs, h8, fun h7 => h1 (by rw [refs_eq, if_pos h7])⟩
          · rw [if_pos hs] at h2; exact absurd h2 hs
        · exact argE_ok r h x hx
      · rw [if_pos h2] at h; exact absurd h h2
theorem lineE_ok {o : Ob} (h : lineE o = 0) (ho : o = opO o.s o.l) : OkP o := by
  unfold lineE at h
  split at h
  · next hn =>
    split at h
    · exact absurd h (by decide)
    · next hl => exact ⟨ho, hn, by omega, argE_ok _ h⟩
  · exact absurd h (by decide)
theorem okA_text {x : Ob} (h : OkA x) : (objTE x).2 = x.text := by
  obtain ⟨h1, h2, h3⟩ := h
  unfold objTE
  rw [if_neg (by rw [h1]; decide), if_neg h2]
theorem lineT_words {o : Ob} (h : OkP o) : lineT o = wordsT o.l o.s.data.toList ++ [10] := by
  unfold lineT wordsT
  rw [List.map_congr_left (fun x hx => okA_text (h.2.2.2 x hx))]
theorem linesE_ok : ∀ (l : List Ob), linesE l = 0 → (∀ o ∈ l, o = opO o.s o.l) → ∀ o ∈ l, OkP o
  | [], _, _, o, ho => by cases ho
  | y :: r, h, hop, o, ho => by
    rw [linesE] at h
    by_cases h1 : lineE y = 0
    · rw [if_neg (by rw [h1]; decide)] at h
      rcases List.mem_cons.1 ho with rfl | ho
      · exact lineE_ok h1 (hop o List.mem_cons_self)
      · exact linesE_ok r h (fun z hz => hop z (List.mem_cons_of_mem _ hz)) o ho
    · rw [if_pos h1] at h; exact absurd h h1
theorem linesT_words : ∀ (l : List Ob), (∀ o ∈ l, OkP o) → linesT l = linesW l
  | [], _ => rfl
  | o :: r, h => by
    have ih := linesT_words r (fun z hz => h z (List.mem_cons_of_mem _ hz))
    unfold linesT linesW at ih ⊢
    rw [List.flatMap_cons, List.flatMap_cons, ih, lineT_words (h o List.mem_cons_self)]
theorem words_len (nm : List UInt8) : ∀ (xs : List Ob), (∀ x ∈ xs, x.text.length + 50 ≤ 200 * x.wt) → (wordsT xs nm).length ≤ 200 * wtL xs + nm.length
  | [], _ => by rw [wordsT_nil]; omega
  | x :: r, h => by
    have ih := words_len nm r (fun z hz => h z (List.mem_cons_of_mem _ hz))
    have h1 := h x List.mem_cons_self
    rw [wordsT_cons, List.length_append, List.length_cons, wtL_cons]; omega
theorem FewW.line {l : List Ob} (h : FewW l) {o : Ob} (ho : o ∈ l) (hk : OkP o) : (lineT o).length ≤ 200 * o.wt := by
  rw [lineT_words hk, List.length_append, List.length_singleton]
  have h1 := words_len o.s.data.toList o.l (fun x hx => (h.ok ho hx).2)
  have h2 := wt_eq o
  have h3 : o.s.data.toList.length = o.s.size := by simp
  omega
theorem FewW.tail {o : Ob} {l : List Ob} (h : FewW (o :: l)) : FewW l :=
  ⟨fun z hz => h.op z (List.mem_cons_of_mem _ hz), fun z hz => h.words z (List.mem_cons_of_mem _ hz), by have := h.wt; rw [wtL_cons] at this; omega⟩
theorem FewW.lines : ∀ {l : List Ob}, FewW l → (∀ o ∈ l, OkP o) → (linesT l).length ≤ 200 * wtL l
  | [], _, _ => Nat.zero_le _
  | o :: r, h, hk => by
    have ih := h.tail.lines (fun z hz => hk z (List.mem_cons_of_mem _ hz))
    have h1 := h.line List.mem_cons_self (hk o List.mem_cons_self)
    unfold linesT at ih ⊢
    rw [List.flatMap_cons, List.length_append, wtL_cons]; omega
theorem FewW.lineV {l : List Ob} (h : FewW l) : ∀ o ∈ l, (lineV o).length ≤ 400000 := fun o ho => by
  unfold Go.Proofs.YtkpagahnmbchjaaGreatDoor.lineV
  split
  · next hE =>
    have h1 := h.line ho (lineE_ok hE (h.op o ho))
    have h2 := wtL_mem ho
    have h3 := h.wt
    omega
  · exact Nat.zero_le _

theorem FewW.len {l : List Ob} (h : FewW l) : l.length ≤ 2000 := by
  have := wtL_len l
  have := h.wt
  omega
theorem FewW.E {l : List Ob} (h : FewW l) : opsE l = linesE l := by
  have := h.len
  unfold opsE
  rw [if_neg (by omega)]
/-- What is written is parsed as it was. -/
theorem FewW.back {l : List Ob} (h : FewW l) (hE : opsE l = 0) (hN : ∀ o ∈ l, ∀ x ∈ o.l, x.norm = x) : (opsT l).length ≤ 400000 ∧ opsV (opsT l) = (0, l) := by
  have hk := linesE_ok l (h.E.symm.trans hE) h.op
  have hT : opsT l = linesT l := by unfold opsT; rw [if_neg (by rw [hE]; decide)]
  rw [hT]
  refine ⟨by have := h.lines hk; have := h.wt; omega, ?_⟩
  have := ops_lines l 65536 [] [] [] hk (.inl rfl) (by have := h.len; omega)
  simp only [List.nil_append] at this
  unfold opsV
  rw [linesT_words l hk]
  refine this.trans ?_
  have e : l.map normP = l := by
    conv => rhs; rw [← List.map_id l]
    refine List.map_congr_left fun o ho => ?_
    unfold normP
    rw [show o.l.map Ob.norm = o.l from (List.map_congr_left fun x hx => hN o ho x hx).trans (List.map_id _)]
    exact (h.op o ho).symm
  rw [e]

/-- What few tells of operators that came in. -/
theorem FewW.of {rs : ORow} (h1 : ∀ r ∈ rs, OpW r.1) (h2 : 0 ≤ few (allO (rs.map (·.1))) 2000 0) : FewW (rs.map (·.1)) := by
  have hw := few_le _ 2000 0 h2
  rw [wt_eq] at hw
  refine ⟨fun o ho => ?_, fun o ho => ?_, ?_⟩
  · obtain ⟨r, hr, rfl⟩ := List.mem_map.1 ho
    exact (h1 r hr).1
  · obtain ⟨r, hr, rfl⟩ := List.mem_map.1 ho
    exact (h1 r hr).2
  · have : wtL (allO (rs.map (·.1))).l = wtL (rs.map (·.1)) := rfl
    omega

end Go.Proofs.YtkpagahnmbchjaaGreatDoor
