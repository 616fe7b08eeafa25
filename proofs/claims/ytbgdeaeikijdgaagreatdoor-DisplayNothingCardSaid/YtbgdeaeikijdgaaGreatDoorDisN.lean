/-
  The document's example of layer 12: what it draws.
  Words with blanks between them are operators; what the law DisplayNothing's text draws.
-/
import Derived.Test.YtbgdeaeikijdgaaGreatDoorDisR
import Derived.Test.YtbgdeaeikijdgaaGreatDoorWbM
namespace Go.Proofs.YtbgdeaeikijdgaaGreatDoor
open Go.RowKit Cx Px
set_option linter.unusedSimpArgs false
set_option linter.unusedVariables false

def aw12T : ByteArray := ⟨#[49, 32, 48, 32, 48, 32, 114, 103, 32, 48, 32, 48, 32, 49, 48, 32, 49, 48, 32, 114, 101, 32, 102]⟩
def aw12O : List Ob := [opO ⟨#[114, 103]⟩ [.mk 2 1 1000 ⟨#[]⟩ [] [], .mk 2 1 0 ⟨#[]⟩ [] [], .mk 2 1 0 ⟨#[]⟩ [] []], opO ⟨#[114, 101]⟩ [.mk 2 1 0 ⟨#[]⟩ [] [], .mk 2 1 0 ⟨#[]⟩ [] [], .mk 2 1 10000 ⟨#[]⟩ [] [], .mk 2 1 10000 ⟨#[]⟩ [] []], opO ⟨#[102]⟩ []]
theorem aw12_parse : opsV aw12T.data.toList = (0, aw12O) := by kernel_rfl
def aw12P : Pen := (newPen.setSt { newPen.st with c := ⟨1000, 0, 0⟩ })
def aw12Q : Pen := boxed aw12P 0 0 (Fx.addV 0 10000) (Fx.addV 0 10000)
theorem hasN_of {l : List Ob} {fs : List Int} (h : (List.range fs.length).all (fun i => match l[i]? with | some o => o.k == 2 && o.f == fs.getD i 0 | none => false) = true) : HasN l fs := by
  intro i hi
  have := List.all_eq_true.1 h i (List.mem_range.2 hi)
  cases hl : l[i]? with
  | none => rw [hl] at this; cases this
  | some o =>
    rw [hl] at this
    simp only [Bool.and_eq_true, beq_iff_eq] at this
    obtain ⟨h2, e⟩ := List.getElem?_eq_some_iff.1 hl
    refine ⟨h2, by rw [e]; exact this.1, by rw [e, this.2, List.getD_eq_getElem?_getD, List.getElem?_eq_getElem hi]; rfl⟩
theorem aw12_draws : Drws newPen aw12O (aw12Q.paint 1) :=
  .cons (.rg newPen _ 1000 0 0 (hasN_of (by kernel_rfl))) (.cons (.re aw12P _ 0 0 10000 10000 (hasN_of (by kernel_rfl)) (by kernel_rfl) (by kernel_rfl) (by kernel_rfl) (by kernel_rfl) (by kernel_rfl) (by kernel_rfl)) (.cons (.f aw12Q _ (by decide)) (.nil _)))
theorem aw12_basic : ∀ o ∈ aw12O, Basic o := by
  intro o ho
  simp only [aw12O, List.mem_cons, List.not_mem_nil, or_false] at ho
  rcases ho with rfl | rfl | rfl <;> (unfold Basic opO; simp only [Ob.s]; decide)
theorem aw12_out : ∃ i, (aw12Q.paint 1).out = [i] ∧ i.kind = 1 ∧ i.path.length = 5 ∧ i.c.r = 1000 := ⟨aw12Q.item 1, by rfl, rfl, rfl, rfl⟩

theorem one_of {I : List (It × Pd)} {i : It} (h : I.map (·.1) = [i]) : ∃ d, I = [(i, d)] := by
  match I, h with
  | [(a, d)], h => exact ⟨d, by rw [show a = i by simpa using h]⟩
  | [], h => simp at h
  | _ :: _ :: _, h => simp at h

/-- '[]byte("..")' of a constant, as a text. -/
theorem conv_const {w W : World} {l : List UInt8} {fr : Nat × Nat} (hl : l ≠ []) (k : Kept (w.alloc (.cells (l.map (fun b => Value.int .u8 (b.toNat : Int))).toArray 5 fr)) W) (cap : Nat) :
    (convert 46 9 (.slice (some ⟨w.heap.size, 0, none⟩) l.length cap)).run Tryz.prog W = .ok (.string ⟨l.toArray⟩) W := by
  refine run_convert_bytes_back (P := Tryz.prog) W 46 9 5 ⟨w.heap.size, 0, none⟩ cap l Tryz.underlying46 Tryz.underlying5 Tryz.underlying9 fun j hj => ?_
  rw [Addr.add_lit, Nat.zero_add, k.cells.1 _ _ (by simp), World.cell?_alloc_mark]
  simp [hj]

end Go.Proofs.YtbgdeaeikijdgaaGreatDoor

namespace Go.Proofs.YtbgdeaeikijdgaaGreatDoor
open Cx Px Lx
set_option linter.unusedSimpArgs false
set_option linter.unusedVariables false

/-- An operator's words and a blank. -/
def wordB (o : Ob) : List UInt8 := wordsT o.l o.s.data.toList ++ [32]
theorem ops_sp (z : Ob) (hz : OkP z) : ∀ (os : List Ob) (m : Nat) (acc : List Ob) (pre ws : List UInt8), (∀ o ∈ os, OkP o) → Ws1 ws → os.length + 1 ≤ m →
    opsGo (pre ++ (ws ++ (os.flatMap wordB ++ wordsT z.l z.s.data.toList))) m acc pre.length = (0, acc ++ os.map normP ++ [normP z])
  | [], m, acc, pre, ws, _, hw, hm => by
    obtain ⟨m, rfl⟩ : ∃ q, m = q + 1 := ⟨m - 1, by simp at hm; omega⟩
    have h1 := ops_one hz m acc pre ws [] hw rfl
    rw [List.append_nil] at h1
    rw [List.flatMap_nil, List.nil_append, h1]
    have h2 := ops_end m (acc ++ [normP z]) (pre ++ (ws ++ wordsT z.l z.s.data.toList)) [] (.inl rfl)
    rw [List.append_nil] at h2
    rw [h2]; simp
  | o :: r, m, acc, pre, ws, hx, hw, hm => by
    obtain ⟨m, rfl⟩ : ∃ q, m = q + 1 := ⟨m - 1, by simp at hm; omega⟩
    have e : (o :: r).flatMap wordB ++ wordsT z.l z.s.data.toList = wordsT o.l o.s.data.toList ++ (32 :: (r.flatMap wordB ++ wordsT z.l z.s.data.toList)) := by rw [List.flatMap_cons]; simp [wordB]
    rw [e, ops_one (hx o List.mem_cons_self) m acc pre ws (32 :: (r.flatMap wordB ++ wordsT z.l z.s.data.toList)) hw rfl]
    have ih := ops_sp z hz r m (acc ++ [normP o]) (pre ++ (ws ++ wordsT o.l o.s.data.toList)) [32] (fun y hy => hx y (List.mem_cons_of_mem _ hy)) (.inr ⟨32, rfl, rfl⟩) (by simpa using hm)
    have e2 : pre ++ (ws ++ (wordsT o.l o.s.data.toList ++ (32 :: (r.flatMap wordB ++ wordsT z.l z.s.data.toList)))) = pre ++ (ws ++ wordsT o.l o.s.data.toList) ++ ([32] ++ (r.flatMap wordB ++ wordsT z.l z.s.data.toList)) := by simp
    rw [e2, ih]; simp
theorem ops_words (os : List Ob) (z : Ob) (hz : OkP z) (hx : ∀ o ∈ os, OkP o) (hl : os.length ≤ 65535) : opsV (os.flatMap wordB ++ wordsT z.l z.s.data.toList) = (0, os.map normP ++ [normP z]) := by
  have h := ops_sp z hz os 65536 [] [] [] hx (.inl rfl) (by omega)
  simpa [opsV] using h

/-- A word of letters is a name. -/
theorem named_word {t : List UInt8} (hn : t ≠ []) (hb : ∀ b ∈ t, reg b = true) (h0 : numB (t.headD 0) = false) (h1 : (t == trueT || t == falseT || t == nullT) = false) (h2 : t ≠ [66, 73]) : named t = true := by
  have h := next_word (suf := []) hn hb h0 rfl
  rw [List.append_nil] at h
  unfold named
  rw [h]
  simp only [isOp, h1, beq_self_eq_true, Bool.and_true, Bool.true_and, Bool.not_false, Bool.not_eq_true', beq_eq_false_iff_ne]
  exact h2

def aO : Ob := .mk 4 0 0 ⟨#[97]⟩ [] []
def n1O : Ob := .mk 2 1 1000 ⟨#[]⟩ [] []
def n0O : Ob := .mk 2 1 0 ⟨#[]⟩ [] []
def bbO : Ob := .mk 3 0 0 ⟨#[98]⟩ [] []
def chunkO (s : ByteArray) : List Ob := [opO s [aO, n1O, bbO], opO mOp [n0O, n0O], opO lOp [n1O, n1O], opO ⟨#[110]⟩ []]
def tailO : List Ob := [opO ⟨#[102]⟩ [], opO ⟨#[83]⟩ [], opO ⟨#[66]⟩ [], opO ⟨#[115]⟩ []]
def lastO : Ob := opO ⟨#[110]⟩ []
def reps (s : ByteArray) : Nat → List Ob
  | 0 => []
  | k + 1 => reps s k ++ chunkO s
/-- The law's text. -/
def repT (s : ByteArray) : Nat → ByteArray
  | 0 => ⟨#[]⟩
  | k + 1 => repT s k ++ ⟨#[40, 97, 41, 32, 49, 32, 47, 98, 32]⟩ ++ s ++ ⟨#[32, 48, 32, 48, 32, 109, 32, 49, 32, 49, 32, 108, 32, 110, 32]⟩

/-- Which texts the law is about. -/
structure Xyz (s : ByteArray) : Prop where
  ne : s.data.toList ≠ []
  all : ∀ b ∈ s.data.toList, b = 120 ∨ b = 121 ∨ b = 122
theorem Xyz.head {s : ByteArray} (h : Xyz s) : ∃ b r, s.data.toList = b :: r ∧ (b = 120 ∨ b = 121 ∨ b = 122) := by
  obtain ⟨b, r, e⟩ := List.exists_cons_of_ne_nil h.ne
  exact ⟨b, r, e, h.all b (by rw [e]; exact List.mem_cons_self)⟩
theorem Xyz.ne_of {s : ByteArray} (h : Xyz s) {t : List UInt8} (ht : t.headD 0 ≠ 120 ∧ t.headD 0 ≠ 121 ∧ t.headD 0 ≠ 122) : s.data.toList ≠ t := fun e => by
  obtain ⟨b, r, e1, hb⟩ := h.head
  rw [← e, e1] at ht
  simp only [List.headD_cons] at ht
  rcases hb with rfl | rfl | rfl
  · exact ht.1 rfl
  · exact ht.2.1 rfl
  · exact ht.2.2 rfl
theorem Xyz.named {s : ByteArray} (h : Xyz s) : named s.data.toList = true := by
  obtain ⟨b, r, e, hb⟩ := h.head
  refine named_word h.ne (fun c hc => by rcases h.all c hc with rfl | rfl | rfl <;> rfl) (by rw [e]; rcases hb with rfl | rfl | rfl <;> rfl) ?_ (h.ne_of (by decide))
  simp only [Bool.or_eq_false_iff, beq_eq_false_iff_ne]
  exact ⟨⟨h.ne_of (by decide), h.ne_of (by decide)⟩, h.ne_of (by decide)⟩
theorem okA_of : ∀ x ∈ [aO, n1O, n0O, bbO], OkA x := by
  intro x hx
  simp only [List.mem_cons, List.not_mem_nil, or_false] at hx
  rcases hx with rfl | rfl | rfl | rfl <;> exact ⟨by kernel_rfl, by decide, by decide⟩
theorem okP_const {nm : ByteArray} {l : List Ob} (hn : named nm.data.toList = true) (hl : l.length ≤ 64) (hx : ∀ x ∈ l, OkA x) : OkP (opO nm l) := ⟨rfl, hn, hl, hx⟩
theorem okP_chunk {s : ByteArray} (h : Xyz s) : ∀ o ∈ chunkO s, OkP o := by
  intro o ho
  simp only [chunkO, List.mem_cons, List.not_mem_nil, or_false] at ho
  rcases ho with rfl | rfl | rfl | rfl
  · exact okP_const h.named (by decide) fun x hx => okA_of x (by simp only [List.mem_cons, List.not_mem_nil, or_false] at hx ⊢; rcases hx with rfl | rfl | rfl <;> simp)
  · exact okP_const (by kernel_rfl) (by decide) fun x hx => okA_of x (by simp only [List.mem_cons, List.not_mem_nil, or_false] at hx ⊢; rcases hx with rfl | rfl <;> simp)
  · exact okP_const (by kernel_rfl) (by decide) fun x hx => okA_of x (by simp only [List.mem_cons, List.not_mem_nil, or_false] at hx ⊢; rcases hx with rfl | rfl <;> simp)
  · exact okP_const (by kernel_rfl) (by decide) fun x hx => by cases hx
theorem okP_reps {s : ByteArray} (h : Xyz s) : ∀ k, ∀ o ∈ reps s k, OkP o
  | 0, o, ho => by cases ho
  | k + 1, o, ho => by
    rcases List.mem_append.1 ho with ho | ho
    · exact okP_reps h k o ho
    · exact okP_chunk h o ho
theorem okP_tail : ∀ o ∈ tailO, OkP o := by
  intro o ho
  simp only [tailO, List.mem_cons, List.not_mem_nil, or_false] at ho
  rcases ho with rfl | rfl | rfl | rfl <;> exact okP_const (by kernel_rfl) (by decide) fun x hx => by cases hx
theorem okP_last : OkP lastO := okP_const (by kernel_rfl) (by decide) fun x hx => by cases hx
theorem reps_len (s : ByteArray) : ∀ k, (reps s k).length = 4 * k
  | 0 => rfl
  | k + 1 => by rw [reps, List.length_append, reps_len s k]; simp [chunkO]; omega
theorem chunk_text (s : ByteArray) : (chunkO s).flatMap wordB = [40, 97, 41, 32, 49, 32, 47, 98, 32] ++ s.data.toList ++ [32, 48, 32, 48, 32, 109, 32, 49, 32, 49, 32, 108, 32, 110, 32] := by
  have h0 : aO.text = [40, 97, 41] := by kernel_rfl
  have h1 : n1O.text = [49] := by kernel_rfl
  have h2 : n0O.text = [48] := by kernel_rfl
  have h3 : bbO.text = [47, 98] := by kernel_rfl
  simp [chunkO, wordB, wordsT_cons, wordsT_nil, opO, Ob.l, Ob.s, h0, h1, h2, h3, mOp, lOp]
theorem rep_text (s : ByteArray) : ∀ k, (repT s k).data.toList = (reps s k).flatMap wordB
  | 0 => rfl
  | k + 1 => by
    rw [reps, List.flatMap_append, chunk_text, ← rep_text s k, repT]
    simp [ByteArray.data_append]
theorem tail_text : tailO.flatMap wordB ++ wordsT lastO.l lastO.s.data.toList = [102, 32, 83, 32, 66, 32, 115, 32, 110] := by kernel_rfl
theorem chunk_norm (s : ByteArray) : (chunkO s).map normP = chunkO s := by
  have h0 : aO.norm = aO := by kernel_rfl
  have h1 : n1O.norm = n1O := by kernel_rfl
  have h2 : n0O.norm = n0O := by kernel_rfl
  have h3 : bbO.norm = bbO := by kernel_rfl
  simp [chunkO, normP, opO, Ob.l, Ob.s, h0, h1, h2, h3]
theorem reps_norm (s : ByteArray) : ∀ k, (reps s k).map normP = reps s k
  | 0 => rfl
  | k + 1 => by rw [reps, List.map_append, reps_norm s k, chunk_norm]
theorem tail_norm : tailO.map normP = tailO := by kernel_rfl
theorem last_norm : normP lastO = lastO := by kernel_rfl
/-- The law's text as operators. -/
theorem no_parse {s : ByteArray} (h : Xyz s) (k : Nat) (hk : k ≤ 1000) : opsV (repT s k ++ ⟨#[102, 32, 83, 32, 66, 32, 115, 32, 110]⟩).data.toList = (0, reps s k ++ tailO ++ [lastO]) := by
  have e : (repT s k ++ (⟨#[102, 32, 83, 32, 66, 32, 115, 32, 110]⟩ : ByteArray)).data.toList = (reps s k ++ tailO).flatMap wordB ++ wordsT lastO.l lastO.s.data.toList := by
    rw [List.flatMap_append, List.append_assoc, tail_text, ← rep_text s k]
    simp [ByteArray.data_append]
  rw [e, ops_words _ _ okP_last (fun o ho => by
    rcases List.mem_append.1 ho with ho | ho
    · exact okP_reps h k o ho
    · exact okP_tail o ho) (by rw [List.length_append, reps_len]; simp [tailO]; omega), List.map_append, reps_norm, tail_norm, last_norm]

theorem nothing_chunk {s : ByteArray} (h : Xyz s) : Drws newPen (chunkO s) newPen :=
  .cons (.none newPen s _ fun hm => by
    obtain ⟨b, r, e, hb⟩ := h.head
    rw [e] at hm
    simp only [known, List.mem_cons, List.not_mem_nil, or_false, List.cons.injEq] at hm
    rcases hb with rfl | rfl | rfl <;> simp at hm)
    (.cons (.m newPen _ 0 0 (hasN_of (by kernel_rfl)) (by kernel_rfl)) (.cons (.l _ _ 1000 1000 (hasN_of (by kernel_rfl)) (by kernel_rfl)) (.cons (.n _ _) (.nil _))))
theorem nothing_reps {s : ByteArray} (h : Xyz s) : ∀ k, Drws newPen (reps s k) newPen
  | 0 => .nil _
  | k + 1 => (nothing_reps h k).app (nothing_chunk h)
def noQ : Pen := { ((((newPen.paint 1).paint 2).paint 3).shut.paint 2) with path := [] }
theorem nothing_draws {s : ByteArray} (h : Xyz s) (k : Nat) : Drws newPen (reps s k ++ tailO ++ [lastO]) noQ :=
  ((nothing_reps h k).app (.cons (.f newPen _ (by decide)) (.cons (.bigS _ _ (by decide)) (.cons (.bigB _ _ (by decide)) (.cons (.s _ _ (by decide)) (.nil _)))))).app (.cons (.n _ _) (.nil _))
theorem nothing_basic {s : ByteArray} (h : Xyz s) (k : Nat) : ∀ o ∈ reps s k ++ tailO ++ [lastO], Basic o := by
  have hc : ∀ o ∈ chunkO s, Basic o := by
    intro o ho
    simp only [chunkO, List.mem_cons, List.not_mem_nil, or_false] at ho
    rcases ho with rfl | rfl | rfl | rfl
    · have n : ∀ t : ByteArray, (t.data.toList.headD 0 ≠ 120 ∧ t.data.toList.headD 0 ≠ 121 ∧ t.data.toList.headD 0 ≠ 122) → s ≠ t := fun t ht e => h.ne_of ht (by rw [e])
      exact ⟨n _ (by decide), n _ (by decide), n _ (by decide), n _ (by decide), n _ (by decide), n _ (by decide)⟩
    all_goals (unfold Basic opO; simp only [Ob.s]; decide)
  have hr : ∀ k, ∀ o ∈ reps s k, Basic o := fun k => by
    induction k with
    | zero => intro o ho; cases ho
    | succ k ih =>
      intro o ho
      rcases List.mem_append.1 ho with ho | ho
      · exact ih o ho
      · exact hc o ho
  intro o ho
  rcases List.mem_append.1 ho with ho | ho
  · rcases List.mem_append.1 ho with ho | ho
    · exact hr k o ho
    · simp only [tailO, List.mem_cons, List.not_mem_nil, or_false] at ho
      rcases ho with rfl | rfl | rfl | rfl <;> (unfold Basic opO; simp only [Ob.s]; decide)
  · rw [List.mem_singleton.1 ho]
    unfold Basic lastO opO; simp only [Ob.s]; decide
theorem nothing_out : ∃ i, noQ.out = [i] ∧ i.kind = 2 ∧ i.path.length = 1 := ⟨(newPen.shut).item 2, by rfl, rfl, rfl⟩
theorem rep_size (s : ByteArray) (hs : s.size ≤ 20) : ∀ k, (repT s k).size ≤ 60 * k
  | 0 => Nat.le_refl _
  | k + 1 => by
    have ih := rep_size s hs k
    rw [repT]
    simp only [ByteArray.size_append]
    have a : (⟨#[40, 97, 41, 32, 49, 32, 47, 98, 32]⟩ : ByteArray).size = 9 := rfl
    have b : (⟨#[32, 48, 32, 48, 32, 109, 32, 49, 32, 49, 32, 108, 32, 110, 32]⟩ : ByteArray).size = 15 := rfl
    omega

end Go.Proofs.YtbgdeaeikijdgaaGreatDoor
