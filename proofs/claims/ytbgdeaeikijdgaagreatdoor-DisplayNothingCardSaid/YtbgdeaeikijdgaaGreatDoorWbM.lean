/-
  Arrays and dictionaries in one another: what is read of their text, and of what is cut off. Nothing of the program is named here.
  A token read alone is the same token.
  What Quote tells is a Text of the same bytes; what NameOf tells is a Name of them.
  The tokens of written numbers and words. Nothing of the program is named here.
  What was written is read as it was: an object's text, behind anything, ahead of what may follow. Nothing of the program is named here.
  Operators that were written are parsed as they were. Nothing of the program is named here.
  What content streams draw, where nothing is wrong: a pen, and what each operator does with it. Nothing of the program is named here.
-/
import Derived.Test.YtbgdeaeikijdgaaGreatDoorLexM
import Derived.Test.YtbgdeaeikijdgaaGreatDoorFixMs
import Derived.Test.YtbgdeaeikijdgaaGreatDoorGeoM
namespace Go.Proofs.YtbgdeaeikijdgaaGreatDoor.Cx
open Lx
set_option linter.unusedSimpArgs false
set_option linter.unusedVariables false

def opn (d : Bool) : List UInt8 := if d then [60, 60, 47, 65, 32] else [91]
def cls (d : Bool) : List UInt8 := if d then [62, 62] else [93]
def nest (d : Bool) : Nat → List UInt8
  | 0 => [55]
  | j + 1 => opn d ++ (nest d j ++ cls d)
def nestO (d : Bool) : Nat → Ob
  | 0 => .mk 2 1 7000 ⟨#[]⟩ [] []
  | j + 1 => if d then .mk 6 0 0 ⟨#[]⟩ [] [(⟨#[65]⟩, nestO d j)] else .mk 5 0 0 ⟨#[]⟩ [nestO d j] []
theorem nest_len (d : Bool) : ∀ j, (nest d j).length = 1 + j * (if d then 7 else 2)
  | 0 => by cases d <;> rfl
  | j + 1 => by
    rw [nest, List.length_append, List.length_append, nest_len d j]
    cases d <;> simp [opn, cls] <;> omega
theorem nestO_k (d : Bool) : ∀ j, (nestO d j).k ≠ 0
  | 0 => by simp [nestO, Ob.k]
  | j + 1 => by cases d <;> simp [nestO, Ob.k]
theorem nestO_count (d : Bool) : ∀ j, (nestO d j).count = j + 1
  | 0 => by simp [nestO, count_mk]
  | j + 1 => by
    have := nestO_count d j
    cases d <;> simp [nestO, count_mk, countL_cons, countD_cons, countL, countD, this] <;> omega

theorem next_app (a r : List UInt8) : nextV (a ++ r) (a.length : Int) = if (nextV r 0).1 = 0 then (0, { (nextV r 0).2 with frm := (nextV r 0).2.frm + a.length, to := (nextV r 0).2.to + a.length }) else ((nextV r 0).1, zero) := by
  have hs : spaceV (a ++ r) (a.length : Int) = spc false r + a.length := by
    unfold spaceV
    have h0 : (min (max (a.length : Int) 0) ((a ++ r).length : Int)).toNat = a.length := by rw [List.length_append]; omega
    rw [h0, List.drop_left]; omega
  have ht := tok_shift a r (spc false r)
  have hc : (0 : Int) ≤ (a.length : Int) ∧ (a.length : Int) ≤ ((a ++ r).length : Int) := ⟨by omega, by rw [List.length_append]; omega⟩
  rw [next_zero]
  unfold nextV
  rw [if_pos hc, hs, ht]
  unfold addT
  by_cases h : (tokV r (spc false r)).1 = 0
  · simp [h]
  · simp [h]
theorem next_white (a r : List UInt8) : nextV (a ++ 32 :: r) (a.length : Int) = nextV (a ++ 32 :: r) ((a.length + 1 : Nat) : Int) := by
  have hs : spaceV (a ++ 32 :: r) (a.length : Int) = spaceV (a ++ 32 :: r) ((a.length + 1 : Nat) : Int) := by
    unfold spaceV
    have h0 : (min (max (a.length : Int) 0) ((a ++ 32 :: r).length : Int)).toNat = a.length := by rw [List.length_append]; omega
    have h1 : (min (max ((a.length + 1 : Nat) : Int) 0) ((a ++ 32 :: r).length : Int)).toNat = a.length + 1 := by rw [List.length_append, List.length_cons]; omega
    rw [h0, h1, List.drop_left, ← List.drop_drop, List.drop_left, List.drop_succ_cons, List.drop_zero, spc, if_pos (show white 32 = true from rfl)]; omega
  have hc : (0 : Int) ≤ (a.length : Int) ∧ (a.length : Int) ≤ ((a ++ 32 :: r).length : Int) := ⟨by omega, by rw [List.length_append]; omega⟩
  have hc' : (0 : Int) ≤ ((a.length + 1 : Nat) : Int) ∧ ((a.length + 1 : Nat) : Int) ≤ ((a ++ 32 :: r).length : Int) := ⟨by omega, by rw [List.length_append, List.length_cons]; omega⟩
  unfold nextV
  rw [if_pos hc, if_pos hc', hs]

/-- A token, by its kind, number, text, wholeness, and the place behind. -/
def IsTok (l : List UInt8) (pos : Nat) (kind f : Int) (s : List UInt8) (wh : Bool) (to : Nat) : Prop :=
  (nextV l pos).1 = 0 ∧ (nextV l pos).2.kind = kind ∧ (nextV l pos).2.f = f ∧ (nextV l pos).2.s = s ∧ (nextV l pos).2.whole = wh ∧ (nextV l pos).2.to = to
theorem isTok_app (a r : List UInt8) {kind f : Int} {s : List UInt8} {wh : Bool} {frm to : Nat} (h : nextV r 0 = (0, ⟨kind, f, s, wh, frm, to⟩)) : IsTok (a ++ r) a.length kind f s wh (a.length + to) := by
  unfold IsTok
  rw [next_app, h]
  simp; omega

theorem next_end : nextV [] 0 = (0, ⟨0, 0, [], false, 0, 0⟩) := by rw [next_zero]; rfl
theorem next_arr (r : List UInt8) : nextV (91 :: r) 0 = (0, ⟨4, 0, [], false, 0, 1⟩) := by rw [next_zero]; rfl
theorem next_cls (r : List UInt8) : nextV (93 :: r) 0 = (0, ⟨5, 0, [], false, 0, 1⟩) := by rw [next_zero]; rfl
theorem next_dict (r : List UInt8) : nextV (60 :: 60 :: r) 0 = (0, ⟨6, 0, [], false, 0, 2⟩) := by rw [next_zero]; rfl
theorem next_fin (r : List UInt8) : nextV (62 :: 62 :: r) 0 = (0, ⟨7, 0, [], false, 0, 2⟩) := by rw [next_zero]; rfl
theorem next_name (r : List UInt8) : nextV (47 :: 65 :: 32 :: r) 0 = (0, ⟨2, 0, [65], false, 0, 2⟩) := by rw [next_zero]; rfl
theorem next_name1 : nextV [47] 0 = (0, ⟨2, 0, [], false, 0, 1⟩) := by rw [next_zero]; rfl
theorem next_name2 : nextV [47, 65] 0 = (0, ⟨2, 0, [65], false, 0, 2⟩) := by rw [next_zero]; rfl
theorem next_lt : nextV [60] 0 = (4, zero) := by rw [next_zero]; rfl
theorem next_gt : nextV [62] 0 = (3, zero) := by rw [next_zero]; rfl

/-- What may follow a number. -/
def Suf (r : List UInt8) : Prop := tw reg r = 0 ∧ wholeT (tokOf (nextV r 0)) = false
theorem suf_nil : Suf [] := ⟨rfl, by rw [next_end]; rfl⟩
theorem suf_cls (r : List UInt8) : Suf (93 :: r) := ⟨rfl, by rw [next_cls]; rfl⟩
theorem suf_fin (r : List UInt8) : Suf (62 :: 62 :: r) := ⟨rfl, by rw [next_fin]; rfl⟩
theorem suf_gt : Suf [62] := ⟨rfl, by rw [next_gt]; rfl⟩
theorem next_seven (r : List UInt8) (h : Suf r) : nextV (55 :: r) 0 = (0, ⟨1, 7000, [], true, 0, 1⟩) := by
  have h1 : tw reg (55 :: r) = 1 := by rw [tw, if_pos (show reg 55 = true from rfl), h.1]
  have hs : spc false (55 :: r) = 0 := rfl
  have ht : tokV (55 :: r) 0 = Lx.wordV (55 :: r) 0 := rfl
  have hw : Lx.wordV (55 :: r) 0 = (0, ⟨1, 7000, [], true, 0, 1⟩) := by
    unfold Lx.wordV
    rw [List.drop_zero, h1, List.take_succ_cons, List.take_zero]
    have e1 : Fx.parseE [55] = 0 := by kernel_rfl
    have e2 : Fx.parseV [55] = 7000 := by kernel_rfl
    have e3 : pointIn [55] = false := by kernel_rfl
    have e4 : numB ((55 :: r).headD 0) = true := rfl
    rw [e1, e2, e3, e4]; rfl
  rw [next_zero, hs, ht, hw]; rfl

/-- The object at a place is read; it fails; it is too deep. -/
def Reads (l : List UInt8) (dep pos : Nat) (x : Ob) (to F0 : Nat) : Prop :=
  (nextV l pos).1 = 0 ∧ (nextV l pos).2.kind ≠ 0 ∧ (nextV l pos).2.kind ≠ 5 ∧ (∀ F, F0 ≤ F → objOf F l dep (nextV l pos).2 = (0, x, to)) ∧ ∀ F, (objOf F l dep (nextV l pos).2).1 ≠ 0 ∨ objOf F l dep (nextV l pos).2 = (0, x, to)
def Fails (l : List UInt8) (dep pos : Nat) : Prop :=
  (nextV l pos).1 ≠ 0 ∨ ((nextV l pos).2.kind ≠ 5 ∧ ∀ F, (objOf F l dep (nextV l pos).2).1 ≠ 0)
def Deep (l : List UInt8) (dep pos : Nat) (F0 : Nat) : Prop :=
  (nextV l pos).1 = 0 ∧ (nextV l pos).2.kind ≠ 0 ∧ (nextV l pos).2.kind ≠ 5 ∧ ∀ F, F0 ≤ F → objOf F l dep (nextV l pos).2 = (5, nul, 0)

theorem obj_arr (F : Nat) (l : List UInt8) (dep : Nat) (t : Tok) (h : t.kind = 4) : objOf (F + 1) l dep t = if dep = 64 then (5, nul, 0) else if (upO F l (dep + 1) [] t.to).1 = 0 then (0, .mk 5 0 0 ⟨#[]⟩ (upO F l (dep + 1) [] t.to).2.1 [], (upO F l (dep + 1) [] t.to).2.2) else ((upO F l (dep + 1) [] t.to).1, nul, 0) := by
  rw [objOf]
  simp only [h, if_true, if_false, show ¬ ((4 : Int) = 0) by decide, show ¬ ((4 : Int) = 1) by decide, show ¬ ((4 : Int) = 2) by decide, show ¬ ((4 : Int) = 3) by decide, show ¬ ((4 : Int) = 8) by decide]
theorem obj_dict (F : Nat) (l : List UInt8) (dep : Nat) (t : Tok) (h : t.kind = 6) : objOf (F + 1) l dep t = if dep = 64 then (5, nul, 0) else if (upE F l (dep + 1) [] t.to).1 = 0 then (0, .mk 6 0 0 ⟨#[]⟩ [] (settle (upE F l (dep + 1) [] t.to).2.1), (upE F l (dep + 1) [] t.to).2.2) else ((upE F l (dep + 1) [] t.to).1, nul, 0) := by
  rw [objOf]
  simp only [h, if_true, if_false, show ¬ ((6 : Int) = 0) by decide, show ¬ ((6 : Int) = 1) by decide, show ¬ ((6 : Int) = 2) by decide, show ¬ ((6 : Int) = 3) by decide, show ¬ ((6 : Int) = 8) by decide, show ¬ ((6 : Int) = 4) by decide]
theorem upO_end (F : Nat) {l : List UInt8} (dep : Nat) (acc : List Ob) {p p3 : Nat} {f : Int} {s : List UInt8} {wh : Bool} (h : IsTok l p 5 f s wh p3) : upO (F + 1) l dep acc p = (0, acc, p3) := by
  obtain ⟨c0, c1, -, -, -, c5⟩ := h
  rw [upO, if_neg (by rw [c0]; decide), if_pos c1, c5]
theorem upE_end (F : Nat) {l : List UInt8} (dep : Nat) (acc : List Entr) {p p3 : Nat} {f : Int} {s : List UInt8} {wh : Bool} (h : IsTok l p 7 f s wh p3) : upE (F + 1) l dep acc p = (0, acc, p3) := by
  obtain ⟨c0, c1, -, -, -, c5⟩ := h
  rw [upE, if_neg (by rw [c0]; decide), if_pos c1, c5]
theorem upO_one (F : Nat) {l : List UInt8} {dep p : Nat} (h0 : (nextV l p).1 = 0) (h1 : (nextV l p).2.kind ≠ 0) (h2 : (nextV l p).2.kind ≠ 5) : upO (F + 1) l dep [] p = if (objOf F l dep (nextV l p).2).1 = 0 then upO F l dep [(objOf F l dep (nextV l p).2).2.1] (objOf F l dep (nextV l p).2).2.2 else ((objOf F l dep (nextV l p).2).1, [], 0) := by
  rw [upO, if_neg (by rw [h0]; decide), if_neg h2, if_neg h1, if_neg (by simp), List.nil_append]
theorem ent_one (F : Nat) {l : List UInt8} {dep p p1 : Nat} {f : Int} {s : List UInt8} {wh : Bool} (h : IsTok l p 2 f s wh p1) : entOf (F + 1) l dep (nextV l p).2 = if (nextV l p1).1 ≠ 0 then ((nextV l p1).1, (⟨#[]⟩, nul), 0) else if (objOf F l dep (nextV l p1).2).1 = 0 then (0, (str s, (objOf F l dep (nextV l p1).2).2.1), (objOf F l dep (nextV l p1).2).2.2) else ((objOf F l dep (nextV l p1).2).1, (⟨#[]⟩, nul), 0) := by
  obtain ⟨c0, c1, -, c3, -, c5⟩ := h
  have hn : ¬ (nextV l p).2.kind ≠ 2 := by rw [c1]; decide
  rw [entOf, if_neg hn, c5, c3]
theorem upE_ent (F : Nat) {l : List UInt8} {dep p p1 : Nat} {f : Int} {s : List UInt8} {wh : Bool} (h : IsTok l p 2 f s wh p1) : upE (F + 1) l dep [] p = if (entOf F l dep (nextV l p).2).1 = 0 then upE F l dep [(entOf F l dep (nextV l p).2).2.1] (entOf F l dep (nextV l p).2).2.2 else ((entOf F l dep (nextV l p).2).1, [], 0) := by
  obtain ⟨c0, c1, -, c3, -, c5⟩ := h
  have h0 : ¬ (nextV l p).1 ≠ 0 := by rw [c0]; decide
  have h1 : ¬ (nextV l p).2.kind = 7 := by rw [c1]; decide
  have h2 : ¬ (nextV l p).2.kind = 0 := by rw [c1]; decide
  have h3 : ¬ ([] : List Entr).length = 1024 := by simp
  rw [upE, if_neg h0, if_neg h1, if_neg h2, if_neg h3, List.nil_append]
theorem upE_one (F : Nat) {l : List UInt8} {dep p p1 : Nat} {f : Int} {s : List UInt8} {wh : Bool} (h : IsTok l p 2 f s wh p1) : upE (F + 2) l dep [] p = if (nextV l p1).1 ≠ 0 then ((nextV l p1).1, [], 0) else if (objOf F l dep (nextV l p1).2).1 = 0 then upE (F + 1) l dep [(str s, (objOf F l dep (nextV l p1).2).2.1)] (objOf F l dep (nextV l p1).2).2.2 else ((objOf F l dep (nextV l p1).2).1, [], 0) := by
  rw [upE_ent _ h, ent_one _ h]
  by_cases h1 : (nextV l p1).1 ≠ 0
  · simp only [if_pos h1, if_neg h1]
  · by_cases h2 : (objOf F l dep (nextV l p1).2).1 = 0
    · simp only [if_neg h1, if_pos h2, if_true]
    · simp only [if_neg h1, if_neg h2]

theorem arr_reads {l : List UInt8} {dep pos p1 p2 p3 F0 : Nat} {x : Ob} {f f' : Int} {s s' : List UInt8} {wh wh' : Bool} (hd : dep < 64) (ht : IsTok l pos 4 f s wh p1) (hr : Reads l (dep + 1) p1 x p2 F0) (hc : IsTok l p2 5 f' s' wh' p3) :
    Reads l dep pos (.mk 5 0 0 ⟨#[]⟩ [x] []) p3 (F0 + 4) := by
  obtain ⟨t0, t1, -, -, -, t5⟩ := ht
  obtain ⟨r0, r1, r2, r3, r4⟩ := hr
  have hu : ∀ G, (objOf (G + 1) l (dep + 1) (nextV l p1).2) = (0, x, p2) → objOf (G + 3) l dep (nextV l pos).2 = (0, .mk 5 0 0 ⟨#[]⟩ [x] [], p3) := fun G h => by
    have e : upO (G + 2) l (dep + 1) [] p1 = (0, [x], p3) := by rw [upO_one _ r0 r1 r2, h, if_pos rfl]; exact upO_end G _ _ hc
    rw [obj_arr _ _ _ _ t1, if_neg (by omega), t5, e, if_pos rfl]
  refine ⟨t0, by rw [t1]; decide, by rw [t1]; decide, fun F hF => ?_, fun F => ?_⟩
  · obtain ⟨G, rfl⟩ : ∃ G, F = G + 3 := ⟨F - 3, by omega⟩
    exact hu G (r3 _ (by omega))
  · match F with
    | 0 => exact .inl (by rw [objOf]; decide)
    | 1 => exact .inl (by rw [obj_arr _ _ _ _ t1, if_neg (by omega), upO]; decide)
    | 2 =>
      refine .inl ?_
      have e : (upO 1 l (dep + 1) [] (nextV l pos).2.to).1 ≠ 0 := by
        rw [t5, upO_one 0 r0 r1 r2, objOf, if_neg (by decide)]; decide
      rw [obj_arr _ _ _ _ t1, if_neg (by omega), if_neg e]; exact e
    | G + 3 =>
      rcases r4 (G + 1) with h | h
      · refine .inl ?_
        have e : (upO (G + 2) l (dep + 1) [] (nextV l pos).2.to).1 ≠ 0 := by
          rw [t5, upO_one _ r0 r1 r2, if_neg h]; exact h
        rw [obj_arr _ _ _ _ t1, if_neg (by omega), if_neg e]; exact e
      · exact .inr (hu G h)
theorem arr_deep {l : List UInt8} {dep pos p1 F0 : Nat} {f : Int} {s : List UInt8} {wh : Bool} (ht : IsTok l pos 4 f s wh p1) (hr : dep ≠ 64 → Deep l (dep + 1) p1 F0) : Deep l dep pos (F0 + 4) := by
  obtain ⟨t0, t1, -, -, -, t5⟩ := ht
  refine ⟨t0, by rw [t1]; decide, by rw [t1]; decide, fun F hF => ?_⟩
  obtain ⟨G, rfl⟩ : ∃ G, F = G + 3 := ⟨F - 3, by omega⟩
  rw [obj_arr _ _ _ _ t1, t5]
  by_cases h : dep = 64
  · rw [if_pos h]
  · rw [if_neg h]
    obtain ⟨r0, r1, r2, r3⟩ := hr h
    have hu : upO (G + 2) l (dep + 1) [] p1 = (5, [], 0) := by
      rw [upO_one _ r0 r1 r2, r3 (G + 1) (by omega)]; rfl
    rw [hu]; rfl
theorem arr_fails {l : List UInt8} {dep pos p1 : Nat} {f : Int} {s : List UInt8} {wh : Bool} (ht : IsTok l pos 4 f s wh p1) (hr : ∀ F, (upO F l (dep + 1) [] p1).1 ≠ 0) : Fails l dep pos := by
  obtain ⟨t0, t1, -, -, -, t5⟩ := ht
  refine .inr ⟨by rw [t1]; decide, fun F => ?_⟩
  cases F with
  | zero => rw [objOf]; decide
  | succ F =>
    rw [obj_arr _ _ _ _ t1, t5]
    split
    · decide
    · rw [if_neg (hr F)]; exact hr F
theorem upO_fails {l : List UInt8} {dep p1 : Nat} {acc : List Ob} (h : Fails l dep p1) : ∀ F, (upO F l dep acc p1).1 ≠ 0 := by
  intro F
  cases F with
  | zero => rw [upO]; decide
  | succ F =>
    rw [upO]
    by_cases h0 : (nextV l p1).1 ≠ 0
    · rw [if_pos h0]; exact h0
    · rw [if_neg h0]
      rcases h with h | ⟨h1, h2⟩
      · exact absurd h h0
      · rw [if_neg h1]
        split
        · decide
        · split
          · decide
          · rw [if_neg (h2 F)]; exact h2 F
/-- Behind an object nothing follows that ends a row. -/
def Ends (l : List UInt8) (p : Nat) : Prop := (nextV l p).1 ≠ 0 ∨ (nextV l p).2.kind = 0
theorem upO_short {l : List UInt8} {dep p1 p2 : Nat} {x : Ob} {F0 : Nat} (h : Reads l dep p1 x p2 F0) (he : Ends l p2) : ∀ F, (upO F l dep [] p1).1 ≠ 0 := by
  intro F
  obtain ⟨r0, r1, r2, -, hn⟩ := h
  cases F with
  | zero => rw [upO]; decide
  | succ F =>
    rw [upO_one _ r0 r1 r2]
    rcases hn F with h | h
    · rw [if_neg h]; exact h
    · rw [h, if_pos rfl]
      cases F with
      | zero => rw [upO]; decide
      | succ F =>
        rw [upO]
        rcases he with he | he
        · rw [if_pos he]; exact he
        · by_cases h0 : (nextV l p2).1 ≠ 0
          · rw [if_pos h0]; exact h0
          · rw [if_neg h0, if_neg (by rw [he]; decide), if_pos he]; decide

theorem settle_one (key : ByteArray) (x : Ob) (h : x.k ≠ 0) : settle [(key, x)] = [(key, x)] := by
  show setD [] key x = _
  unfold setD
  rw [show (x.k == 0) = false by simpa using h, setGo]; rfl
theorem dict_reads {l : List UInt8} {dep pos p0 p1 p2 p3 F0 : Nat} {x : Ob} {f f' f'' : Int} {s s' s'' : List UInt8} {wh wh' wh'' : Bool} (hd : dep < 64) (hx : x.k ≠ 0) (ht : IsTok l pos 6 f s wh p0) (hn : IsTok l p0 2 f'' s'' wh'' p1) (hr : Reads l (dep + 1) p1 x p2 F0) (hc : IsTok l p2 7 f' s' wh' p3) :
    Reads l dep pos (.mk 6 0 0 ⟨#[]⟩ [] [(str s'', x)]) p3 (F0 + 4) := by
  obtain ⟨t0, t1, -, -, -, t5⟩ := ht
  obtain ⟨r0, r1, r2, r3, r4⟩ := hr
  have hu : ∀ G, (objOf G l (dep + 1) (nextV l p1).2) = (0, x, p2) → objOf (G + 3) l dep (nextV l pos).2 = (0, .mk 6 0 0 ⟨#[]⟩ [] [(str s'', x)], p3) := fun G h => by
    have e : upE (G + 2) l (dep + 1) [] p0 = (0, [(str s'', x)], p3) := by rw [upE_one _ hn, if_neg (by rw [r0]; decide), h, if_pos rfl]; exact upE_end G _ _ hc
    rw [obj_dict _ _ _ _ t1, if_neg (by omega), t5, e, if_pos rfl, settle_one _ _ hx]
  refine ⟨t0, by rw [t1]; decide, by rw [t1]; decide, fun F hF => ?_, fun F => ?_⟩
  · obtain ⟨G, rfl⟩ : ∃ G, F = G + 3 := ⟨F - 3, by omega⟩
    exact hu G (r3 _ (by omega))
  · match F with
    | 0 => exact .inl (by rw [objOf]; decide)
    | 1 => exact .inl (by rw [obj_dict _ _ _ _ t1, if_neg (by omega), upE]; decide)
    | 2 =>
      refine .inl ?_
      have e : (upE 1 l (dep + 1) [] (nextV l pos).2.to).1 ≠ 0 := by
        rw [t5, upE_ent 0 hn, entOf, if_neg (by decide)]; decide
      rw [obj_dict _ _ _ _ t1, if_neg (by omega), if_neg e]; exact e
    | G + 3 =>
      rcases r4 G with h | h
      · refine .inl ?_
        have e : (upE (G + 2) l (dep + 1) [] (nextV l pos).2.to).1 ≠ 0 := by
          rw [t5, upE_one _ hn, if_neg (by rw [r0]; decide), if_neg h]; exact h
        rw [obj_dict _ _ _ _ t1, if_neg (by omega), if_neg e]; exact e
      · exact .inr (hu G h)
theorem dict_deep {l : List UInt8} {dep pos p0 p1 F0 : Nat} {f f'' : Int} {s s'' : List UInt8} {wh wh'' : Bool} (ht : IsTok l pos 6 f s wh p0) (hn : IsTok l p0 2 f'' s'' wh'' p1) (hr : dep ≠ 64 → Deep l (dep + 1) p1 F0) : Deep l dep pos (F0 + 4) := by
  obtain ⟨t0, t1, -, -, -, t5⟩ := ht
  refine ⟨t0, by rw [t1]; decide, by rw [t1]; decide, fun F hF => ?_⟩
  obtain ⟨G, rfl⟩ : ∃ G, F = G + 3 := ⟨F - 3, by omega⟩
  rw [obj_dict _ _ _ _ t1, t5]
  by_cases h : dep = 64
  · rw [if_pos h]
  · rw [if_neg h]
    obtain ⟨r0, r1, r2, r3⟩ := hr h
    have hu : upE (G + 2) l (dep + 1) [] p0 = (5, [], 0) := by
      rw [upE_one _ hn, if_neg (by rw [r0]; decide), r3 G (by omega)]; rfl
    rw [hu]; rfl
theorem dict_fails {l : List UInt8} {dep pos p1 : Nat} {f : Int} {s : List UInt8} {wh : Bool} (ht : IsTok l pos 6 f s wh p1) (hr : ∀ F, (upE F l (dep + 1) [] p1).1 ≠ 0) : Fails l dep pos := by
  obtain ⟨t0, t1, -, -, -, t5⟩ := ht
  refine .inr ⟨by rw [t1]; decide, fun F => ?_⟩
  cases F with
  | zero => rw [objOf]; decide
  | succ F =>
    rw [obj_dict _ _ _ _ t1, t5]
    split
    · decide
    · rw [if_neg (hr F)]; exact hr F
theorem upE_ends {l : List UInt8} {dep p1 : Nat} {acc : List Entr} (h : Ends l p1) : ∀ F, (upE F l dep acc p1).1 ≠ 0 := by
  intro F
  cases F with
  | zero => rw [upE]; decide
  | succ F =>
    rw [upE]
    rcases h with he | he
    · rw [if_pos he]; exact he
    · by_cases h0 : (nextV l p1).1 ≠ 0
      · rw [if_pos h0]; exact h0
      · rw [if_neg h0, if_neg (by rw [he]; decide), if_pos he]; decide
theorem upE_fails {l : List UInt8} {dep p0 p1 : Nat} {f : Int} {s : List UInt8} {wh : Bool} (hn : IsTok l p0 2 f s wh p1) (h : Fails l dep p1) : ∀ F, (upE F l dep [] p0).1 ≠ 0 := by
  intro F
  match F with
  | 0 => rw [upE]; decide
  | 1 =>
    rw [upE_ent 0 hn, entOf, if_neg (by decide)]; decide
  | F + 2 =>
    rw [upE_one _ hn]
    by_cases h0 : (nextV l p1).1 ≠ 0
    · rw [if_pos h0]; exact h0
    · rw [if_neg h0]
      rcases h with h | ⟨h1, h2⟩
      · exact absurd h h0
      · rw [if_neg (h2 F)]; exact h2 F
theorem upE_short {l : List UInt8} {dep p0 p1 p2 : Nat} {x : Ob} {F0 : Nat} {f : Int} {s : List UInt8} {wh : Bool} (hn : IsTok l p0 2 f s wh p1) (h : Reads l dep p1 x p2 F0) (he : Ends l p2) : ∀ F, (upE F l dep [] p0).1 ≠ 0 := by
  intro F
  obtain ⟨r0, r1, r2, -, hn'⟩ := h
  match F with
  | 0 => rw [upE]; decide
  | 1 =>
    rw [upE_ent 0 hn, entOf, if_neg (by decide)]; decide
  | F + 2 =>
    rw [upE_one _ hn, if_neg (by rw [r0]; decide)]
    rcases hn' F with h | h
    · rw [if_neg h]; exact h
    · rw [h, if_pos rfl]; exact upE_ends he _

theorem ends_nil (a : List UInt8) : Ends (a ++ []) a.length := .inr (by have := isTok_app a [] next_end; exact this.2.1)
theorem fails_nil (a : List UInt8) (dep : Nat) : Fails (a ++ []) dep a.length := by
  have h := isTok_app a [] next_end
  refine .inr ⟨by rw [h.2.1]; decide, fun F => ?_⟩
  cases F with
  | zero => rw [objOf]; decide
  | succ F => rw [objOf, if_pos h.2.1]; decide
theorem err_app (a r : List UInt8) (e : Int) (h : nextV r 0 = (e, zero)) (he : e ≠ 0) : (nextV (a ++ r) a.length).1 ≠ 0 := by
  rw [next_app, h]; simp only []; rw [if_neg he]; exact he
theorem next_to {l : List UInt8} {p q : Nat} (h : nextV l p = nextV l q) {dep to F0 : Nat} {x : Ob} : (Reads l dep q x to F0 → Reads l dep p x to F0) ∧ (Fails l dep q → Fails l dep p) ∧ (Deep l dep q F0 → Deep l dep p F0) := by
  unfold Reads Fails Deep; rw [h]; exact ⟨id, id, id⟩

theorem nest_reads (d : Bool) : ∀ (j : Nat) (pre suf : List UInt8) (dep : Nat), dep + j ≤ 64 → Suf suf → Reads (pre ++ (nest d j ++ suf)) dep pre.length (nestO d j) (pre.length + (nest d j).length) (4 * j + 1)
  | 0, pre, suf, dep, _, hs => by
    have h := isTok_app pre (55 :: suf) (next_seven suf hs)
    have hF : ∀ F, objOf (F + 1) (pre ++ (55 :: suf)) dep (nextV (pre ++ (55 :: suf)) pre.length).2 = (0, nestO d 0, pre.length + 1) := fun F => by
      obtain ⟨h0, h1, h2, h3, h4, h5⟩ := h
      have hn : wholeT (tokOf (nextV (pre ++ (55 :: suf)) ((pre.length + 1 : Nat) : Int))) = false := by
        have h6 : nextV (pre ++ (55 :: suf)) ((pre.length + 1 : Nat) : Int) = nextV ((pre ++ [55]) ++ suf) ((pre ++ [55]).length : Int) := by simp
        have h7 := hs.2
        rw [h6, next_app]
        unfold tokOf at h7 ⊢
        by_cases hz : (nextV suf 0).1 = 0
        · rw [if_pos hz] at h7
          rw [if_pos hz]; exact h7
        · rw [if_neg hz] at h7
          rw [if_neg hz]
          simp only []
          rw [if_neg hz]; exact h7
      have hnum : numberV (pre ++ (55 :: suf)) (nextV (pre ++ (55 :: suf)) pre.length).2 = (nestO d 0, pre.length + 1) := by
        unfold numberV
        rw [h5, hn]
        simp only [Bool.false_eq_true, if_false, ite_self]
        unfold numV
        rw [h4, h2]; rfl
      rw [objOf, if_neg (by rw [h1]; decide), if_pos h1, hnum]
    refine ⟨h.1, by rw [show pre ++ (nest d 0 ++ suf) = pre ++ (55 :: suf) from rfl, h.2.1]; decide, by rw [show pre ++ (nest d 0 ++ suf) = pre ++ (55 :: suf) from rfl, h.2.1]; decide, fun F hF' => ?_, fun F => ?_⟩
    · obtain ⟨G, rfl⟩ : ∃ G, F = G + 1 := ⟨F - 1, by omega⟩
      exact hF G
    · cases F with
      | zero => exact .inl (by rw [objOf]; decide)
      | succ F => exact .inr (hF F)
  | j + 1, pre, suf, dep, hd, hs => by
    cases d with
    | false =>
      have e0 : pre ++ (nest false (j + 1) ++ suf) = pre ++ (91 :: (nest false j ++ (93 :: suf))) := by simp [nest, opn, cls]
      have e1 : pre ++ (91 :: (nest false j ++ (93 :: suf))) = (pre ++ [91]) ++ (nest false j ++ (93 :: suf)) := by simp
      have e2 : (pre ++ [91]) ++ (nest false j ++ (93 :: suf)) = (pre ++ [91] ++ nest false j) ++ (93 :: suf) := by simp
      have h1 := isTok_app pre (91 :: (nest false j ++ (93 :: suf))) (next_arr _)
      have h2 := nest_reads false j (pre ++ [91]) (93 :: suf) (dep + 1) (by omega) (suf_cls suf)
      have h3 := isTok_app (pre ++ [91] ++ nest false j) (93 :: suf) (next_cls suf)
      rw [← e2, ← e1, ← e0] at h3
      rw [← e1, ← e0] at h2
      rw [← e0] at h1
      simp only [List.length_append, List.length_cons, List.length_nil, Nat.zero_add] at h1 h2 h3
      have hd' : dep < 64 := by omega
      have := arr_reads hd' h1 h2 h3
      rw [show pre.length + (nest false (j + 1)).length = pre.length + 1 + (nest false j).length + 1 by rw [nest_len, nest_len]; simp; omega]
      exact this
    | true =>
      have e0 : pre ++ (nest true (j + 1) ++ suf) = pre ++ (60 :: 60 :: (47 :: 65 :: 32 :: (nest true j ++ (62 :: 62 :: suf)))) := by simp [nest, opn, cls]
      have e1 : pre ++ (60 :: 60 :: (47 :: 65 :: 32 :: (nest true j ++ (62 :: 62 :: suf)))) = (pre ++ [60, 60]) ++ (47 :: 65 :: 32 :: (nest true j ++ (62 :: 62 :: suf))) := by simp
      have e2 : (pre ++ [60, 60]) ++ (47 :: 65 :: 32 :: (nest true j ++ (62 :: 62 :: suf))) = (pre ++ [60, 60, 47, 65]) ++ (32 :: (nest true j ++ (62 :: 62 :: suf))) := by simp
      have e3 : (pre ++ [60, 60, 47, 65]) ++ (32 :: (nest true j ++ (62 :: 62 :: suf))) = (pre ++ [60, 60, 47, 65, 32]) ++ (nest true j ++ (62 :: 62 :: suf)) := by simp
      have e4 : (pre ++ [60, 60, 47, 65, 32]) ++ (nest true j ++ (62 :: 62 :: suf)) = (pre ++ [60, 60, 47, 65, 32] ++ nest true j) ++ (62 :: 62 :: suf) := by simp
      have h1 := isTok_app pre (60 :: 60 :: (47 :: 65 :: 32 :: (nest true j ++ (62 :: 62 :: suf)))) (next_dict _)
      have h2 := isTok_app (pre ++ [60, 60]) (47 :: 65 :: 32 :: (nest true j ++ (62 :: 62 :: suf))) (next_name _)
      have h3 := next_white (pre ++ [60, 60, 47, 65]) (nest true j ++ (62 :: 62 :: suf))
      have h4 := nest_reads true j (pre ++ [60, 60, 47, 65, 32]) (62 :: 62 :: suf) (dep + 1) (by omega) (suf_fin suf)
      have h5 := isTok_app (pre ++ [60, 60, 47, 65, 32] ++ nest true j) (62 :: 62 :: suf) (next_fin suf)
      rw [← e4, ← e3, ← e2, ← e1, ← e0] at h5
      rw [← e3, ← e2, ← e1, ← e0] at h4
      rw [← e2, ← e1, ← e0] at h3
      rw [← e1, ← e0] at h2
      rw [← e0] at h1
      simp only [List.length_append, List.length_cons, List.length_nil, Nat.zero_add, Nat.reduceAdd] at h1 h2 h3 h4 h5
      have hd' : dep < 64 := by omega
      have := dict_reads hd' (nestO_k true j) h1 h2 ((next_to h3).1 h4) h5
      rw [show pre.length + (nest true (j + 1)).length = pre.length + 5 + (nest true j).length + 2 by rw [nest_len, nest_len]; simp; omega]
      exact this

theorem nest_deep (d : Bool) : ∀ (j : Nat) (pre suf : List UInt8) (dep : Nat), dep ≤ 64 → 64 < dep + j → Deep (pre ++ (nest d j ++ suf)) dep pre.length (4 * j + 1)
  | 0, pre, suf, dep, h1, h2 => absurd h2 (by omega)
  | j + 1, pre, suf, dep, h1, h2 => by
    cases d with
    | false =>
      have e0 : pre ++ (nest false (j + 1) ++ suf) = pre ++ (91 :: (nest false j ++ (93 :: suf))) := by simp [nest, opn, cls]
      have e1 : pre ++ (91 :: (nest false j ++ (93 :: suf))) = (pre ++ [91]) ++ (nest false j ++ (93 :: suf)) := by simp
      have t1 := isTok_app pre (91 :: (nest false j ++ (93 :: suf))) (next_arr _)
      rw [← e0] at t1
      have := arr_deep (dep := dep) t1 (F0 := 4 * j + 1) (fun hne => by
        have := nest_deep false j (pre ++ [91]) (93 :: suf) (dep + 1) (by omega) (by omega)
        rw [← e1, ← e0, List.length_append] at this; exact this)
      exact this
    | true =>
      have e0 : pre ++ (nest true (j + 1) ++ suf) = pre ++ (60 :: 60 :: (47 :: 65 :: 32 :: (nest true j ++ (62 :: 62 :: suf)))) := by simp [nest, opn, cls]
      have e1 : pre ++ (60 :: 60 :: (47 :: 65 :: 32 :: (nest true j ++ (62 :: 62 :: suf)))) = (pre ++ [60, 60]) ++ (47 :: 65 :: 32 :: (nest true j ++ (62 :: 62 :: suf))) := by simp
      have e2 : (pre ++ [60, 60]) ++ (47 :: 65 :: 32 :: (nest true j ++ (62 :: 62 :: suf))) = (pre ++ [60, 60, 47, 65]) ++ (32 :: (nest true j ++ (62 :: 62 :: suf))) := by simp
      have e3 : (pre ++ [60, 60, 47, 65]) ++ (32 :: (nest true j ++ (62 :: 62 :: suf))) = (pre ++ [60, 60, 47, 65, 32]) ++ (nest true j ++ (62 :: 62 :: suf)) := by simp
      have t1 := isTok_app pre (60 :: 60 :: (47 :: 65 :: 32 :: (nest true j ++ (62 :: 62 :: suf)))) (next_dict _)
      have t2 := isTok_app (pre ++ [60, 60]) (47 :: 65 :: 32 :: (nest true j ++ (62 :: 62 :: suf))) (next_name _)
      have t3 := next_white (pre ++ [60, 60, 47, 65]) (nest true j ++ (62 :: 62 :: suf))
      rw [← e2, ← e1, ← e0] at t3
      rw [← e1, ← e0] at t2
      rw [← e0] at t1
      simp only [List.length_append, List.length_cons, List.length_nil, Nat.zero_add, Nat.reduceAdd] at t1 t2 t3
      have := dict_deep (dep := dep) t1 t2 (F0 := 4 * j + 1) (fun hne => by
        have h4 := nest_deep true j (pre ++ [60, 60, 47, 65, 32]) (62 :: 62 :: suf) (dep + 1) (by omega) (by omega)
        rw [← e3, ← e2, ← e1, ← e0] at h4
        simp only [List.length_append, List.length_cons, List.length_nil, Nat.zero_add, Nat.reduceAdd] at h4
        exact (next_to (to := 0) (x := nul) t3).2.2 h4)
      exact this

theorem ends_gt (a : List UInt8) : Ends (a ++ [62]) a.length := .inl (err_app a [62] 3 next_gt (by decide))
theorem nest_cut (d : Bool) : ∀ (j : Nat) (pre : List UInt8) (dep c : Nat), dep + j ≤ 64 → c < (nest d j).length → Fails (pre ++ (nest d j).take c) dep pre.length
  | 0, pre, dep, c, _, hc => by
    obtain rfl : c = 0 := by simpa [nest] using hc
    exact fails_nil pre dep
  | j + 1, pre, dep, 0, _, _ => fails_nil pre dep
  | j + 1, pre, dep, c + 1, hd, hc => by
    cases d with
    | false =>
      have hl : (nest false (j + 1)).length = (nest false j).length + 2 := by rw [nest_len, nest_len]; simp; omega
      have e0 : (nest false (j + 1)).take (c + 1) = 91 :: (nest false j ++ [93]).take c := by simp [nest, opn, cls]
      have t1 := isTok_app pre (91 :: (nest false j ++ [93]).take c) (next_arr _)
      have e1 : pre ++ (91 :: (nest false j ++ [93]).take c) = (pre ++ [91]) ++ (nest false j ++ [93]).take c := by simp
      rw [e0]
      refine arr_fails t1 ?_
      rw [e1]
      by_cases h : c < (nest false j).length
      · have ih := nest_cut false j (pre ++ [91]) (dep + 1) c (by omega) h
        rw [List.take_append_of_le_length (by omega)]
        rw [List.length_append] at ih
        exact upO_fails ih
      · obtain rfl : c = (nest false j).length := by omega
        rw [List.take_left]
        have hr := nest_reads false j (pre ++ [91]) [] (dep + 1) (by omega) suf_nil
        have he := ends_nil (pre ++ [91] ++ nest false j)
        rw [List.append_nil] at hr he
        rw [List.length_append, List.length_append] at he
        rw [List.length_append] at hr
        exact upO_short hr he
    | true =>
      have hl : (nest true (j + 1)).length = (nest true j).length + 7 := by rw [nest_len, nest_len]; simp; omega
      match c, hc with
      | 0, _ => exact .inl (err_app pre [60] 4 next_lt (by decide))
      | 1, _ =>
        have t1 := isTok_app pre [60, 60] (next_dict _)
        have he := ends_nil (pre ++ [60, 60])
        rw [List.append_nil, List.length_append] at he
        exact dict_fails t1 (upE_ends he)
      | 2, _ =>
        have t1 := isTok_app pre [60, 60, 47] (next_dict _)
        have t2 := isTok_app (pre ++ [60, 60]) [47] next_name1
        have hf := fails_nil (pre ++ [60, 60, 47]) (dep + 1)
        rw [show pre ++ [60, 60] ++ [47] = pre ++ [60, 60, 47] by simp] at t2
        rw [List.append_nil] at hf
        simp only [List.length_append, List.length_cons, List.length_nil, Nat.zero_add, Nat.reduceAdd] at t1 t2 hf
        exact dict_fails t1 (upE_fails t2 hf)
      | 3, _ =>
        have t1 := isTok_app pre [60, 60, 47, 65] (next_dict _)
        have t2 := isTok_app (pre ++ [60, 60]) [47, 65] next_name2
        have hf := fails_nil (pre ++ [60, 60, 47, 65]) (dep + 1)
        rw [show pre ++ [60, 60] ++ [47, 65] = pre ++ [60, 60, 47, 65] by simp] at t2
        rw [List.append_nil] at hf
        simp only [List.length_append, List.length_cons, List.length_nil, Nat.zero_add, Nat.reduceAdd] at t1 t2 hf
        exact dict_fails t1 (upE_fails t2 hf)
      | c + 4, hc =>
        have e0 : pre ++ (nest true (j + 1)).take (c + 4 + 1) = pre ++ (60 :: 60 :: (47 :: 65 :: 32 :: (nest true j ++ [62, 62]).take c)) := by simp [nest, opn, cls]
        obtain ⟨X, hX⟩ : ∃ X, X = (nest true j ++ [62, 62]).take c := ⟨_, rfl⟩
        rw [← hX] at e0
        have e1 : pre ++ (60 :: 60 :: (47 :: 65 :: 32 :: X)) = (pre ++ [60, 60]) ++ (47 :: 65 :: 32 :: X) := by simp
        have e2 : (pre ++ [60, 60]) ++ (47 :: 65 :: 32 :: X) = (pre ++ [60, 60, 47, 65]) ++ (32 :: X) := by simp
        have e3 : (pre ++ [60, 60, 47, 65]) ++ (32 :: X) = (pre ++ [60, 60, 47, 65, 32]) ++ X := by simp
        have t1 := isTok_app pre (60 :: 60 :: (47 :: 65 :: 32 :: X)) (next_dict _)
        have t2 := isTok_app (pre ++ [60, 60]) (47 :: 65 :: 32 :: X) (next_name _)
        have t3 := next_white (pre ++ [60, 60, 47, 65]) X
        rw [← e2, ← e1] at t3
        rw [← e1] at t2
        rw [e0]
        simp only [List.length_append, List.length_cons, List.length_nil, Nat.zero_add, Nat.reduceAdd] at t1 t2 t3
        refine dict_fails t1 ?_
        by_cases h : c < (nest true j).length
        · have ih := nest_cut true j (pre ++ [60, 60, 47, 65, 32]) (dep + 1) c (by omega) h
          have hX' : X = (nest true j).take c := by rw [hX, List.take_append_of_le_length (by omega)]
          rw [← hX', ← e3, ← e2, ← e1] at ih
          simp only [List.length_append, List.length_cons, List.length_nil, Nat.zero_add, Nat.reduceAdd] at ih
          exact upE_fails t2 ((next_to (to := 0) (x := nul) (F0 := 0) t3).2.1 ih)
        · have hX' : X = nest true j ++ [62, 62].take (c - (nest true j).length) := by
            rw [hX, List.take_append, List.take_of_length_le (by omega)]
          have hc' : c - (nest true j).length = 0 ∨ c - (nest true j).length = 1 := by omega
          have hr : ∀ suf, X = nest true j ++ suf → Suf suf → Reads (pre ++ (60 :: 60 :: (47 :: 65 :: 32 :: X))) (dep + 1) (pre.length + 2 + 2) (nestO true j) (pre.length + 5 + (nest true j).length) (4 * j + 1) := fun suf hs hsuf => by
            have hr := nest_reads true j (pre ++ [60, 60, 47, 65, 32]) suf (dep + 1) (by omega) hsuf
            rw [← hs, ← e3, ← e2, ← e1] at hr
            simp only [List.length_append, List.length_cons, List.length_nil, Nat.zero_add, Nat.reduceAdd] at hr
            exact (next_to t3).1 hr
          have he : ∀ suf, X = nest true j ++ suf → Ends ((pre ++ [60, 60, 47, 65, 32] ++ nest true j) ++ suf) (pre ++ [60, 60, 47, 65, 32] ++ nest true j).length → Ends (pre ++ (60 :: 60 :: (47 :: 65 :: 32 :: X))) (pre.length + 5 + (nest true j).length) := fun suf hs h => by
            rw [List.append_assoc, ← hs, ← e3, ← e2, ← e1] at h
            simp only [List.length_append, List.length_cons, List.length_nil, Nat.zero_add, Nat.reduceAdd] at h
            exact h
          rcases hc' with h0 | h0
          · rw [h0] at hX'
            exact upE_short t2 (hr _ hX' suf_nil) (he _ hX' (ends_nil _))
          · rw [h0] at hX'
            exact upE_short t2 (hr _ hX' suf_gt) (he _ hX' (ends_gt _))

theorem obj_end (F : Nat) (l : List UInt8) (dep : Nat) (t : Tok) (h : t.kind = 0) : (objOf F l dep t).1 ≠ 0 := by
  cases F with
  | zero => rw [objOf]; decide
  | succ F => rw [objOf, if_pos h]; decide
/-- What Parse answers of a nest, of one that is too deep, and of one that is cut off. -/
theorem parse_nest (d : Bool) (k : Nat) (h : k ≤ 64) : Cx.parse (nest d k) 0 = (0, nestO d k, (nest d k).length) := by
  obtain ⟨h0, -, -, h3, -⟩ := nest_reads d k [] [] 0 (by omega) suf_nil
  simp only [List.nil_append, List.append_nil, List.length_nil, Nat.zero_add] at h0 h3
  unfold Cx.parse
  rw [if_neg (by rw [show ((0 : Int)) = ((0 : Nat) : Int) from rfl, h0]; decide)]
  exact h3 _ (by rw [nest_len]; split <;> omega)
theorem parse_deep (d : Bool) (k : Nat) (h : 64 < k) : Cx.parse (nest d k) 0 = (5, nul, 0) := by
  obtain ⟨h0, -, -, h3⟩ := nest_deep d k [] [] 0 (by omega) (by omega)
  simp only [List.nil_append, List.append_nil, List.length_nil, Nat.zero_add] at h0 h3
  unfold Cx.parse
  rw [if_neg (by rw [show ((0 : Int)) = ((0 : Nat) : Int) from rfl, h0]; decide)]
  exact h3 _ (by rw [nest_len]; split <;> omega)
theorem parse_cut (d : Bool) (k c : Nat) (h : k ≤ 64) (hc : c < (nest d k).length) : (Cx.parse ((nest d k).take c) 0).1 ≠ 0 := by
  have hf := nest_cut d k [] 0 c (by omega) hc
  simp only [List.nil_append, List.length_nil] at hf
  unfold Cx.parse
  by_cases h0 : (nextV ((nest d k).take c) 0).1 ≠ 0
  · rw [if_pos h0]; exact h0
  · rw [if_neg h0]
    rcases hf with hf | hf
    · exact absurd hf h0
    · exact hf.2 _

end Go.Proofs.YtbgdeaeikijdgaaGreatDoor.Cx

namespace Go.Proofs.YtbgdeaeikijdgaaGreatDoor.Lx

theorem take_cons' (b : UInt8) (r : List UInt8) {c : Nat} (h : 0 < c) : (b :: r).take c = b :: r.take (c - 1) := by
  obtain ⟨n, rfl⟩ : ∃ n, c = n + 1 := ⟨c - 1, by omega⟩
  rfl

theorem oct_take : ∀ (n v : Nat) (l : List UInt8) (c : Nat), (oct v n l).2 < c → oct v n (l.take c) = oct v n l
  | 0, v, l, c, _ => by unfold oct; rfl
  | n + 1, v, [], c, _ => by rw [List.take_nil]
  | n + 1, v, b :: r, c, h => by
    rw [take_cons' b r (by omega)]
    unfold oct at h ⊢
    cases e : isOct b
    · rfl
    · rw [e] at h
      simp only [if_true] at h ⊢
      rw [oct_take n _ r (c - 1) (by omega)]
theorem crlf_take (r : List UInt8) (c : Nat) (h : crlf r < c) : crlf (r.take c) = crlf r := by
  cases r with
  | nil => rw [List.take_nil]
  | cons b r => rw [take_cons' b r (by omega)]; rfl
theorem esc_take (l : List UInt8) (c : Nat) (h : (esc l).2 < c) : esc (l.take c) = esc l := by
  cases l with
  | nil => rw [List.take_nil]
  | cons b r =>
    rw [esc_cons] at h
    rw [take_cons' b r (by omega), esc_cons, esc_cons]
    cases e : isOct b
    · rw [e] at h
      simp only [Bool.false_eq_true, if_false] at h ⊢
      by_cases h13 : (b == 13) = true
      · rw [if_pos h13] at h ⊢
        rw [if_pos h13, crlf_take r (c - 1) (by simp only [] at h; omega)]
      · rw [if_neg h13, if_neg h13]
    · rw [e] at h
      simp only [if_true] at h ⊢
      have := oct_take 3 0 (b :: r) c h
      rw [take_cons' b r (by omega)] at this
      rw [this]

theorem name_skip (acc : List UInt8) : ∀ (m : Nat) (l : List UInt8) (k : Nat), m ≤ l.length → nameGo acc m l k = nameGo acc 0 (l.drop m) (k + m)
  | 0, l, k, _ => rfl
  | m + 1, [], k, h => by simp at h
  | m + 1, b :: r, k, h => by
    rw [nameGo, name_skip acc m r (k + 1) (by simp at h; omega), List.drop_succ_cons]
    congr 1; omega

theorem name_take (acc : List UInt8) (m : Nat) (l : List UInt8) (k : Nat) (hm : m ≤ l.length) : (nameGo acc m l k).1 = 0 → nameGo acc m (l.take ((nameGo acc m l k).2.2 - k)) k = nameGo acc m l k := by
  fun_induction nameGo acc m l k with
  | case1 acc m k => intro _; obtain rfl : m = 0 := by simpa using hm
                     simp; unfold nameGo; rfl
  | case2 acc m b r k ih =>
    intro h
    have hr : m ≤ r.length := by simp at hm; omega
    have hb := (name_bd _ _ _ _ h).1
    have := ih hr h
    rw [take_cons' b r (by omega), nameGo, Nat.sub_sub, this]
  | case3 acc b k h1 h2 a c tail h3 ih =>
    intro h
    have hb := (name_bd _ _ _ _ h).1
    have hsk : k + 1 + 2 ≤ (nameGo (acc ++ [hexV a <<< 4 ||| hexV c]) 2 (a :: c :: tail) (k + 1)).2.2 := by
      rw [name_skip _ 2 (a :: c :: tail) _ (by simp)] at h ⊢
      exact (name_bd _ _ _ _ h).1
    have := ih (by simp) h
    generalize hR : nameGo (acc ++ [hexV a <<< 4 ||| hexV c]) 2 (a :: c :: tail) (k + 1) = R at *
    rw [take_cons' a _ (by omega), take_cons' c _ (by omega)] at this
    rw [take_cons' _ _ (by omega), take_cons' _ _ (by omega), take_cons' _ _ (by omega)]
    rw [nameGo.eq_def]
    simp only [h1, h2, h3, if_true]
    rw [show R.2.2 - k - 1 - 1 - 1 = R.2.2 - (k + 1) - 1 - 1 by omega]
    exact this
  | case4 => intro h; simp at h
  | case5 => intro h; simp at h
  | case6 acc b r k h1 h2 ih =>
    intro h
    have hb := (name_bd _ _ _ _ h).1
    have := ih (Nat.zero_le _) h
    rw [take_cons' b r (by omega), nameGo.eq_def]
    simp only [h1, h2, if_true, Bool.false_eq_true, if_false]
    rw [Nat.sub_sub, this]
  | case7 acc b r k h1 => intro _; simp; unfold nameGo; rfl

theorem text_gt (acc : List UInt8) (d m : Nat) (l : List UInt8) (k : Nat) (hm : m ≤ l.length) (h : (textGo acc d m l k).1 = 0) : k + m < (textGo acc d m l k).2.2 := by
  rw [text_pass acc d m l k hm] at h ⊢
  exact (text_bd _ _ _ _ _ h).1

theorem text_take (acc : List UInt8) (d m : Nat) (l : List UInt8) (k : Nat) : (textGo acc d m l k).1 = 0 → textGo acc d m (l.take ((textGo acc d m l k).2.2 - k)) k = textGo acc d m l k := by
  fun_induction textGo acc d m l k with
  | case1 => intro h; simp at h
  | case2 acc d m b r k ih =>
    intro h
    have hb := (text_bd _ _ _ _ _ h).1
    rw [take_cons' b r (by omega), textGo, Nat.sub_sub, ih h]
  | case3 acc d b r k h1 ih =>
    intro h
    have hb := (text_bd _ _ _ _ _ h).1
    have hg := text_gt _ _ _ _ _ esc_le h
    rw [take_cons' b r (by omega), textGo.eq_def]
    simp only [h1, if_true]
    rw [esc_take r _ (by omega), Nat.sub_sub, ih h]
  | case4 acc d b r k h1 h2 ih =>
    intro h
    have hb := (text_bd _ _ _ _ _ h).1
    rw [take_cons' b r (by omega), textGo.eq_def]
    simp only [h1, h2, if_true, Bool.false_eq_true, if_false]
    rw [Nat.sub_sub, ih h]
  | case5 acc b r k h1 h2 h3 =>
    intro h
    simp only [Nat.add_sub_cancel_left, List.take_succ_cons, List.take_zero]
    rw [textGo.eq_def]
    simp only [h1, h2, h3, if_true, Bool.false_eq_true, if_false]
  | case6 acc b r k h1 h2 h3 d ih =>
    intro h
    have hb := (text_bd _ _ _ _ _ h).1
    rw [take_cons' b r (by omega), textGo.eq_def]
    simp only [h1, h2, h3, if_true, Bool.false_eq_true, if_false]
    rw [Nat.sub_sub, ih h]
  | case7 acc d b r k h1 h2 h3 h4 ih =>
    intro h
    have hb := (text_bd _ _ _ _ _ h).1
    have hg := text_gt _ _ _ _ _ (crlf_le r) h
    rw [take_cons' b r (by omega), textGo.eq_def]
    simp only [h1, h2, h3, h4, if_true, Bool.false_eq_true, if_false]
    rw [crlf_take r _ (by omega), Nat.sub_sub, ih h]
  | case8 acc d b r k h1 h2 h3 h4 ih =>
    intro h
    have hb := (text_bd _ _ _ _ _ h).1
    rw [take_cons' b r (by omega), textGo.eq_def]
    simp only [h1, h2, h3, h4, Bool.false_eq_true, if_false]
    rw [Nat.sub_sub, ih h]

theorem hex_take (acc : List UInt8) (p : Option UInt8) (l : List UInt8) (k : Nat) : (hexGo acc p l k).1 = 0 → hexGo acc p (l.take ((hexGo acc p l k).2.2 - k)) k = hexGo acc p l k := by
  fun_induction hexGo acc p l k with
  | case1 => intro h; simp at h
  | case2 acc p b r k h1 =>
    intro h
    simp only [Nat.add_sub_cancel_left, List.take_succ_cons, List.take_zero]
    rw [hexGo.eq_def]
    simp only [h1, if_true]
  | case3 acc p b r k h1 h2 ih =>
    intro h
    have hb := (hex_bd _ _ _ _ h).1
    rw [take_cons' b r (by omega), hexGo.eq_def]
    simp only [h1, h2, if_true, Bool.false_eq_true, if_false]
    rw [Nat.sub_sub, ih h]
  | case4 acc b r k h1 h2 h3 ih =>
    intro h
    have hb := (hex_bd _ _ _ _ h).1
    rw [take_cons' b r (by omega), hexGo.eq_def]
    simp only [h1, h2, h3, if_true, Bool.false_eq_true, if_false]
    rw [Nat.sub_sub, ih h]
  | case5 acc b r k h1 h2 h3 u ih =>
    intro h
    have hb := (hex_bd _ _ _ _ h).1
    rw [take_cons' b r (by omega), hexGo.eq_def]
    simp only [h1, h2, h3, if_true, Bool.false_eq_true, if_false]
    rw [Nat.sub_sub, ih h]
  | case6 => intro h; simp at h

theorem tw_take' (p : UInt8 → Bool) : ∀ l : List UInt8, tw p (l.take (tw p l)) = tw p l
  | [] => rfl
  | b :: r => by
    cases h : p b
    · rw [show tw p (b :: r) = 0 by rw [tw, h]; rfl]; rfl
    · rw [show tw p (b :: r) = tw p r + 1 by rw [tw, if_pos h], List.take_succ_cons, tw, if_pos h, tw_take' p r]

/-- The token at the very begin, read alone. -/
theorem tok_alone (l : List UInt8) (hs : spc false l = 0) (h : (tokV l 0).1 = 0) : tokV (l.take (tokV l 0).2.to) 0 = tokV l 0 := by
  cases l with
  | nil => rw [List.take_nil]
  | cons b r =>
    have hpos : 0 < (tokV (b :: r) 0).2.to := by
      rcases tok_bd (b :: r) 0 (Nat.zero_le _) (by simpa using hs) h with ⟨h1, _⟩ | ⟨_, _, h3, _⟩
      · simp at h1
      · exact h3
    have hw : (wordV (b :: r) 0).1 = 0 → tokV (b :: r) 0 = wordV (b :: r) 0 → reg b = true → wordV ((b :: r).take (wordV (b :: r) 0).2.to) 0 = wordV (b :: r) 0 := by
      intro hw0 _ hreg
      have hto : (wordV (b :: r) 0).2.to = tw reg (b :: r) := by
        unfold wordV at hw0 ⊢
        simp only [List.drop_zero] at hw0 ⊢
        split
        · rename_i h1
          rw [if_pos h1] at hw0
          split
          · simp
          · rename_i h2; rw [if_neg h2] at hw0; exact absurd hw0 h2
        · simp
      rw [hto]
      unfold wordV
      simp only [List.drop_zero]
      have h1 : ((b :: r).take (tw reg (b :: r))).headD 0 = b := by
        rw [take_cons' b r (by unfold tw; rw [if_pos hreg]; omega)]; rfl
      rw [tw_take', List.take_take, Nat.min_self, h1]
      rfl
    have hreg : ∀ (_ : ¬(b == 91) = true) (_ : ¬(b == 93) = true) (_ : ¬(b == 60) = true) (_ : ¬(b == 62) = true) (_ : ¬(b == 47) = true) (_ : ¬(b == 40) = true) (_ : ¬(b == 41 || b == 123 || b == 125) = true), reg b = true := by
      intro h91 h93 h60 h62 h47 h40 h41
      have hwh : white b = false ∧ (b == 37) = false := by
        rw [spc] at hs
        cases e1 : white b
        · cases e2 : (b == 37)
          · exact ⟨rfl, rfl⟩
          · rw [e1, e2] at hs; simp at hs
        · rw [e1] at hs; simp at hs
      have := byte_all (fun c => white c || c == 91 || c == 93 || c == 60 || c == 62 || c == 47 || c == 40 || (c == 41 || c == 123 || c == 125) || c == 37 || reg c) (by kernel_rfl) b
      simp only [Bool.not_eq_true] at h91 h93 h60 h62 h47 h40 h41
      rw [hwh.1, h91, h93, h60, h62, h47, h40, h41, hwh.2] at this
      exact this
    rw [take_cons' b r hpos]
    unfold tokV at h hpos ⊢
    simp only [List.drop_zero] at h hpos ⊢
    by_cases h91 : (b == 91) = true
    · rw [if_pos h91, if_pos h91]
    rw [if_neg h91] at h hpos ⊢
    by_cases h93 : (b == 93) = true
    · rw [if_neg h91, if_pos h93, if_pos h93]
    rw [if_neg h93] at h hpos ⊢
    by_cases h60 : (b == 60) = true
    · rw [if_neg h91, if_neg h93, if_pos h60]
      rw [if_pos h60] at h hpos ⊢
      by_cases h2 : (r.head? == some 60) = true
      · rw [if_pos h2]
        obtain ⟨x, r', rfl⟩ : ∃ x r', r = x :: r' := by cases r with | nil => simp at h2 | cons x r' => exact ⟨x, r', rfl⟩
        rw [if_pos (by simpa using h2)]
      · rw [if_neg h2] at h hpos ⊢
        obtain ⟨e, he⟩ := ofR3_to h
        have hb := (hex_bd _ _ _ _ e).1
        have ht := hex_take _ _ _ _ e
        rw [he]
        simp only []
        rw [if_neg (by
          cases r with
          | nil => simp
          | cons x r' => rw [take_cons' x r' (by omega)]; simpa using h2), ht]
    rw [if_neg h60] at h hpos ⊢
    by_cases h62 : (b == 62) = true
    · rw [if_neg h91, if_neg h93, if_neg h60, if_pos h62]
      rw [if_pos h62] at h hpos ⊢
      by_cases h2 : (r.head? == some 62) = true
      · rw [if_pos h2]
        obtain ⟨x, r', rfl⟩ : ∃ x r', r = x :: r' := by cases r with | nil => simp at h2 | cons x r' => exact ⟨x, r', rfl⟩
        rw [if_pos (by simpa using h2)]
      · rw [if_neg h2] at h; simp at h
    rw [if_neg h62] at h hpos ⊢
    by_cases h47 : (b == 47) = true
    · rw [if_neg h91, if_neg h93, if_neg h60, if_neg h62, if_pos h47]
      rw [if_pos h47] at h hpos ⊢
      obtain ⟨e, he⟩ := ofR3_to h
      have hb := (name_bd _ _ _ _ e).1
      have ht := name_take _ _ _ _ (Nat.zero_le _) e
      rw [he]
      simp only []
      rw [ht]
    rw [if_neg h47] at h hpos ⊢
    by_cases h40 : (b == 40) = true
    · rw [if_neg h91, if_neg h93, if_neg h60, if_neg h62, if_neg h47, if_pos h40]
      rw [if_pos h40] at h hpos ⊢
      obtain ⟨e, he⟩ := ofR3_to h
      have hb := (text_bd _ _ _ _ _ e).1
      have ht := text_take _ _ _ _ _ e
      rw [he]
      simp only []
      rw [ht]
    rw [if_neg h40] at h hpos ⊢
    by_cases h41 : (b == 41 || b == 123 || b == 125) = true
    · rw [if_pos h41] at h; simp at h
    rw [if_neg h91, if_neg h93, if_neg h60, if_neg h62, if_neg h47, if_neg h40, if_neg h41]
    rw [if_neg h41] at h hpos ⊢
    have := hw h (by
      unfold tokV; simp only [List.drop_zero]
      rw [if_neg h91, if_neg h93, if_neg h60, if_neg h62, if_neg h47, if_neg h40, if_neg h41]) (hreg h91 h93 h60 h62 h47 h40 h41)
    rw [take_cons' b r hpos] at this
    exact this

/-- A token read alone. -/
theorem next_alone (l : List UInt8) (a : Int) (h : (nextV l a).1 = 0) :
    nextV ((l.drop (nextV l a).2.frm).take ((nextV l a).2.to - (nextV l a).2.frm)) 0 = (0, { (nextV l a).2 with frm := 0, to := (nextV l a).2.to - (nextV l a).2.frm }) := by
  unfold nextV at h
  by_cases hin : 0 ≤ a ∧ a ≤ (l.length : Int)
  · rw [if_pos hin] at h
    obtain ⟨b1, b2, b3⟩ := space_bd l a hin.1 hin.2
    by_cases he : (tokV l (spaceV l a)).1 = 0
    · have hn : nextV l a = (0, { (tokV l (spaceV l a)).2 with frm := spaceV l a }) := by
        unfold nextV; rw [if_pos hin, if_pos he]
      generalize hk : spaceV l a = k at *
      have hsh : tokV l k = addT k (tokV (l.drop k) 0) := by
        have := tok_shift (l.take k) (l.drop k) 0
        rw [List.take_append_drop, List.length_take, Nat.min_eq_left b2, Nat.zero_add] at this
        exact this
      have he0 : (tokV (l.drop k) 0).1 = 0 := by
        rw [hsh] at he
        unfold addT at he
        split at he
        · assumption
        · exact he
      have hto : (tokV l k).2.to = (tokV (l.drop k) 0).2.to + k := by rw [hsh]; unfold addT; rw [if_pos he0]
      have hal := tok_alone (l.drop k) b3 he0
      rw [hn]
      simp only []
      rw [hto, Nat.add_sub_cancel]
      have hsp : spc false ((l.drop k).take (tokV (l.drop k) 0).2.to) = 0 := by
        cases hd : l.drop k with
        | nil => rw [List.take_nil]; rfl
        | cons b r =>
          rw [hd] at b3 he0
          have hpos : 0 < (tokV (b :: r) 0).2.to := by
            rcases tok_bd (b :: r) 0 (Nat.zero_le _) (by simpa using b3) he0 with ⟨h1, _⟩ | ⟨_, _, h3, _⟩
            · simp at h1
            · exact h3
          rw [take_cons' b r hpos]
          rw [spc] at b3 ⊢
          split
          · rename_i hw; rw [if_pos hw] at b3; omega
          · rename_i hw
            rw [if_neg hw] at b3
            split
            · rename_i h37; rw [if_pos h37] at b3; omega
            · rfl
      rw [next_zero, hsp, hal, if_pos he0, hsh]
      unfold addT
      rw [if_pos he0]
    · rw [if_neg he] at h; exact absurd h he
  · rw [if_neg hin] at h; simp at h

end Go.Proofs.YtbgdeaeikijdgaaGreatDoor.Lx

namespace Go.Proofs.YtbgdeaeikijdgaaGreatDoor.Lx

theorem octD_is {n : Nat} (h : n < 8) : isOct (octD n) = true ∧ (octD n).toNat - 48 = n := by
  have key : ∀ m : Fin 8, isOct (octD m.val) = true ∧ (octD m.val).toNat - 48 = m.val := by decide
  exact key ⟨n, h⟩
theorem oct_three {a b c : Nat} (ha : a < 8) (hb : b < 8) (hc : c < 8) (r : List UInt8) : oct 0 3 (octD a :: octD b :: octD c :: r) = (64 * a + 8 * b + c, 3) := by
  unfold oct; rw [if_pos (octD_is ha).1, (octD_is ha).2]
  unfold oct; rw [if_pos (octD_is hb).1, (octD_is hb).2]
  unfold oct; rw [if_pos (octD_is hc).1, (octD_is hc).2]
  unfold oct
  simp only [Prod.mk.injEq, and_true]; omega

/-- How each byte stands. -/
theorem quote_as (c : UInt8) : (∃ x, quoteB c = [92, x] ∧ isOct x = false ∧ x ≠ 13 ∧ x ≠ 10 ∧ escB x = c) ∨ (quoteB c = [c] ∧ c ≠ 92 ∧ c ≠ 40 ∧ c ≠ 41 ∧ c ≠ 13) ∨
    quoteB c = [92, octD (c.toNat / 64), octD (c.toNat / 8 % 8), octD (c.toNat % 8)] := by
  have := byte_all (fun c => decide ((quoteB c = [92, (quoteB c).getD 1 0] ∧ isOct ((quoteB c).getD 1 0) = false ∧ (quoteB c).getD 1 0 ≠ 13 ∧ (quoteB c).getD 1 0 ≠ 10 ∧ escB ((quoteB c).getD 1 0) = c) ∨ (quoteB c = [c] ∧ c ≠ 92 ∧ c ≠ 40 ∧ c ≠ 41 ∧ c ≠ 13) ∨
    quoteB c = [92, octD (c.toNat / 64), octD (c.toNat / 8 % 8), octD (c.toNat % 8)])) (by kernel_rfl) c
  rcases of_decide_eq_true this with h | h | h
  · exact .inl ⟨_, h⟩
  · exact .inr (.inl h)
  · exact .inr (.inr h)

theorem text_quote (c : UInt8) (acc r : List UInt8) (d k : Nat) : textGo acc d 0 (quoteB c ++ r) k = textGo (acc ++ [c]) d 0 r (k + (quoteB c).length) := by
  rcases quote_as c with ⟨x, h, h1, h2, h3, h4⟩ | ⟨h, h1, h2, h3, h4⟩ | h
  · rw [h]
    show textGo acc d 0 (92 :: x :: r) k = _
    rw [text_esc rfl, esc_other h1 h2 h3, h4]
    rfl
  · rw [h]
    show textGo acc d 0 (c :: r) k = _
    rw [text_byte h1 h2 h3 h4]
    rfl
  · have hl := c.toNat_lt
    have ha : c.toNat / 64 < 8 := by omega
    have hb : c.toNat / 8 % 8 < 8 := by omega
    have hc : c.toNat % 8 < 8 := by omega
    rw [h]
    show textGo acc d 0 (92 :: octD (c.toNat / 64) :: octD (c.toNat / 8 % 8) :: octD (c.toNat % 8) :: r) k = _
    rw [text_esc rfl, esc_cons, if_pos (octD_is ha).1, oct_three ha hb hc]
    have hv : UInt8.ofNat (64 * (c.toNat / 64) + 8 * (c.toNat / 8 % 8) + c.toNat % 8) = c := by
      rw [show 64 * (c.toNat / 64) + 8 * (c.toNat / 8 % 8) + c.toNat % 8 = c.toNat by omega]
      simp
    simp only []
    rw [hv]
    rfl
theorem text_quotes : ∀ (l acc r : List UInt8) (d k : Nat), textGo acc d 0 (l.flatMap quoteB ++ r) k = textGo (acc ++ l) d 0 r (k + (l.flatMap quoteB).length)
  | [], acc, r, d, k => by simp
  | c :: l, acc, r, d, k => by
    rw [List.flatMap_cons, List.append_assoc, text_quote, text_quotes l, List.append_assoc, List.length_append]
    congr 1
    omega

theorem spc_not {b : UInt8} (h : white b = false) (h' : b ≠ 37) (r : List UInt8) : spc false (b :: r) = 0 := by
  rw [spc, h, if_neg (by simp), if_neg (by simpa using h')]

theorem next_quote (l more : List UInt8) : nextV (quoteV l ++ more) 0 = (0, ⟨3, 0, l, false, 0, (quoteV l).length⟩) := by
  have e : quoteV l ++ more = 40 :: (l.flatMap quoteB ++ (41 :: more)) := by simp [quoteV]
  have ht : tokV (40 :: (l.flatMap quoteB ++ (41 :: more))) 0 = (0, ⟨3, 0, l, false, 0, (quoteV l).length⟩) := by
    show ofR3 3 (textGo [] 0 0 (l.flatMap quoteB ++ (41 :: more)) (0 + 1)) = _
    rw [text_quotes, text_done rfl]
    simp [ofR3, quoteV]
    omega
  rw [e, next_zero, spc_not rfl (by decide), ht]
  rfl

theorem name_as (c : UInt8) : (nameB c = [c] ∧ reg c = true ∧ c ≠ 35) ∨ ∃ x y, nameB c = [35, x, y] ∧ isHex x = true ∧ isHex y = true ∧ hexV x <<< 4 ||| hexV y = c := by
  have := byte_all (fun c => decide ((nameB c = [c] ∧ reg c = true ∧ c ≠ 35) ∨ (nameB c = [35, (nameB c).getD 1 0, (nameB c).getD 2 0] ∧ isHex ((nameB c).getD 1 0) = true ∧ isHex ((nameB c).getD 2 0) = true ∧ hexV ((nameB c).getD 1 0) <<< 4 ||| hexV ((nameB c).getD 2 0) = c))) (by kernel_rfl) c
  rcases of_decide_eq_true this with h | h
  · exact .inl h
  · exact .inr ⟨_, _, h⟩
theorem name_one (c : UInt8) (acc r : List UInt8) (k : Nat) : nameGo acc 0 (nameB c ++ r) k = nameGo (acc ++ [c]) 0 r (k + (nameB c).length) := by
  rcases name_as c with ⟨h, h1, h2⟩ | ⟨x, y, h, h1, h2, h3⟩
  · rw [h]
    show nameGo acc 0 (c :: r) k = _
    rw [name_byte h1 h2]; rfl
  · rw [h]
    show nameGo acc 0 (35 :: x :: y :: r) k = _
    rw [name_two rfl h1 h2, h3]; rfl
theorem name_all : ∀ (l acc r : List UInt8) (k : Nat), nameGo acc 0 (l.flatMap nameB ++ r) k = nameGo (acc ++ l) 0 r (k + (l.flatMap nameB).length)
  | [], acc, r, k => by simp
  | c :: l, acc, r, k => by
    rw [List.flatMap_cons, List.append_assoc, name_one, name_all l, List.append_assoc, List.length_append]
    congr 1
    omega
theorem next_name (l more : List UInt8) (hm : more = [] ∨ ∃ b r, more = b :: r ∧ reg b = false) : nextV (nameV l ++ more) 0 = (0, ⟨2, 0, l, false, 0, (nameV l).length⟩) := by
  have e : nameV l ++ more = 47 :: (l.flatMap nameB ++ more) := by simp [nameV]
  have ht : tokV (47 :: (l.flatMap nameB ++ more)) 0 = (0, ⟨2, 0, l, false, 0, (nameV l).length⟩) := by
    show ofR3 2 (nameGo [] 0 (l.flatMap nameB ++ more) (0 + 1)) = _
    rw [name_all]
    rcases hm with rfl | ⟨b, r, rfl, hb⟩
    · rw [name_end]; simp [ofR3, nameV]; omega
    · rw [name_stop hb]; simp [ofR3, nameV]; omega
  rw [e, next_zero, spc_not rfl (by decide), ht]
  rfl

/-- Bytes between parentheses that pair. -/
def wrap (l : List UInt8) : Nat → List UInt8
  | 0 => l
  | k + 1 => 40 :: (wrap l k ++ [41])
theorem wrap_len (l : List UInt8) : ∀ k, (wrap l k).length = l.length + 2 * k
  | 0 => rfl
  | k + 1 => by simp [wrap, wrap_len l k]; omega
def plainB (b : UInt8) : Prop := b ≠ 92 ∧ b ≠ 40 ∧ b ≠ 41 ∧ b ≠ 13
theorem text_plain : ∀ (l acc r : List UInt8) (d p : Nat), (∀ b ∈ l, plainB b) → textGo acc d 0 (l ++ r) p = textGo (acc ++ l) d 0 r (p + l.length)
  | [], acc, r, d, p, _ => by simp
  | b :: l, acc, r, d, p, h => by
    obtain ⟨h1, h2, h3, h4⟩ := h b List.mem_cons_self
    rw [List.cons_append, text_byte h1 h2 h3 h4, text_plain l _ r d _ (fun x hx => h x (List.mem_cons_of_mem _ hx)), List.append_assoc]
    simp only [List.length_cons, List.singleton_append]
    congr 1; omega
theorem text_wrap (l : List UInt8) (h : ∀ b ∈ l, plainB b) : ∀ (k : Nat) (acc r : List UInt8) (d p : Nat), textGo acc d 0 (wrap l k ++ r) p = textGo (acc ++ wrap l k) d 0 r (p + (wrap l k).length)
  | 0, acc, r, d, p => text_plain l acc r d p h
  | k + 1, acc, r, d, p => by
    have e : wrap l (k + 1) ++ r = 40 :: (wrap l k ++ (41 :: r)) := by simp [wrap]
    rw [e, text_open rfl, text_wrap l h k, text_close rfl]
    simp only [wrap, List.append_assoc, List.length_cons, List.length_append, List.length_nil, List.singleton_append]
    congr 1; omega
theorem next_pairs (l : List UInt8) (h : ∀ b ∈ l, plainB b) (k : Nat) (r : List UInt8) : nextV (40 :: (wrap l k ++ (41 :: r))) 0 = (0, ⟨3, 0, wrap l k, false, 0, (wrap l k).length + 2⟩) := by
  have ht : tokV (40 :: (wrap l k ++ (41 :: r))) 0 = (0, ⟨3, 0, wrap l k, false, 0, (wrap l k).length + 2⟩) := by
    show ofR3 3 (textGo [] 0 0 (wrap l k ++ (41 :: r)) (0 + 1)) = _
    rw [text_wrap l h, text_done rfl]
    simp [ofR3]; omega
  rw [next_zero, spc_not rfl (by decide), ht]
  rfl
theorem next_short (l : List UInt8) (h : ∀ b ∈ l, plainB b) (k : Nat) : nextV (40 :: 40 :: (wrap l k ++ [41])) 0 = (4, zero) := by
  have ht : tokV (40 :: 40 :: (wrap l k ++ [41])) 0 = (4, zero) := by
    show ofR3 3 (textGo [] 0 0 (40 :: (wrap l k ++ [41])) (0 + 1)) = _
    rw [text_open rfl, text_wrap l h, text_close rfl, text_end]
    rfl
  rw [next_zero, spc_not rfl (by decide), ht]
  rfl

end Go.Proofs.YtbgdeaeikijdgaaGreatDoor.Lx

namespace Go.Proofs.YtbgdeaeikijdgaaGreatDoor.Cx
open Lx
set_option linter.unusedSimpArgs false
set_option linter.unusedVariables false

theorem tw_all {t : List UInt8} (h : ∀ b ∈ t, reg b = true) (r : List UInt8) : tw reg (t ++ r) = t.length + tw reg r := by
  induction t with
  | nil => simp
  | cons b t ih =>
    rw [List.cons_append, tw, if_pos (h b List.mem_cons_self), ih (fun c hc => h c (List.mem_cons_of_mem _ hc)), List.length_cons]; omega
theorem num_reg {b : UInt8} (h : numB b = true) : reg b = true ∧ b ≠ 37 ∧ white b = false := by
  have := byte_all (fun b => !numB b || (reg b && (b != 37) && !white b)) (by kernel_rfl) b
  rw [h] at this; simpa [and_assoc] using this
theorem num_tok {b : UInt8} (h : numB b = true) : (b == 91) = false ∧ (b == 93) = false ∧ (b == 60) = false ∧ (b == 62) = false ∧ (b == 47) = false ∧ (b == 40) = false ∧ (b == 41 || b == 123 || b == 125) = false := by
  have := byte_all (fun b => !numB b || (!(b == 91) && !(b == 93) && !(b == 60) && !(b == 62) && !(b == 47) && !(b == 40) && !(b == 41 || b == 123 || b == 125))) (by kernel_rfl) b
  rw [h] at this
  simpa [and_assoc] using this
theorem dig_num {b : UInt8} (h : Fx.isDig b = true) : numB b = true ∧ b ≠ 46 := by
  have := byte_all (fun b => !Fx.isDig b || (numB b && (b != 46))) (by kernel_rfl) b
  rw [h] at this; simpa using this

/-- A number's token. -/
theorem next_num {t suf : List UInt8} (hn : t ≠ []) (hb : ∀ b ∈ t, numB b = true) (hs : tw reg suf = 0) (he : Fx.parseE t = 0) :
    nextV (t ++ suf) 0 = (0, ⟨1, Fx.parseV t, [], !pointIn t, 0, t.length⟩) := by
  obtain ⟨b, r, rfl⟩ : ∃ b r, t = b :: r := List.exists_cons_of_ne_nil hn
  have hbn := hb b List.mem_cons_self
  obtain ⟨n1, n2, n3, n4, n5, n6, n7⟩ := num_tok hbn
  have hsp : spc false ((b :: r) ++ suf) = 0 := spc_not (num_reg hbn).2.2 (num_reg hbn).2.1 _
  have htw : tw reg ((b :: r) ++ suf) = (b :: r).length := by
    rw [tw_all (fun c hc => (num_reg (hb c hc)).1), hs, Nat.add_zero]
  have ht : tokV ((b :: r) ++ suf) 0 = Lx.wordV ((b :: r) ++ suf) 0 := by
    unfold tokV
    rw [List.drop_zero, List.cons_append]
    simp only [n1, n2, n3, n4, n5, n6, n7, Bool.false_eq_true, if_false]
  have hw : Lx.wordV ((b :: r) ++ suf) 0 = (0, ⟨1, Fx.parseV (b :: r), [], !pointIn (b :: r), 0, (b :: r).length⟩) := by
    unfold Lx.wordV
    rw [List.drop_zero, htw, List.take_left]
    rw [show (((b :: r) ++ suf).headD 0) = b from rfl, hbn, he]
    simp
  rw [next_zero, hsp, ht, hw]
  rfl
/-- A word's token. -/
theorem next_word {t suf : List UInt8} (hn : t ≠ []) (hb : ∀ b ∈ t, reg b = true) (h0 : numB (t.headD 0) = false) (hs : tw reg suf = 0) :
    nextV (t ++ suf) 0 = (0, ⟨8, 0, t, false, 0, t.length⟩) := by
  obtain ⟨b, r, rfl⟩ : ∃ b r, t = b :: r := List.exists_cons_of_ne_nil hn
  have hbr := hb b List.mem_cons_self
  have hd : (b == 91) = false ∧ (b == 93) = false ∧ (b == 60) = false ∧ (b == 62) = false ∧ (b == 47) = false ∧ (b == 40) = false ∧ (b == 41 || b == 123 || b == 125) = false ∧ white b = false ∧ b ≠ 37 := by
    have := byte_all (fun b => !reg b || (!(b == 91) && !(b == 93) && !(b == 60) && !(b == 62) && !(b == 47) && !(b == 40) && !(b == 41 || b == 123 || b == 125) && !white b && (b != 37))) (by kernel_rfl) b
    rw [hbr] at this
    simpa [and_assoc] using this
  obtain ⟨n1, n2, n3, n4, n5, n6, n7, n8, n9⟩ := hd
  have hsp : spc false ((b :: r) ++ suf) = 0 := spc_not n8 n9 _
  have htw : tw reg ((b :: r) ++ suf) = (b :: r).length := by
    rw [tw_all hb, hs, Nat.add_zero]
  have ht : tokV ((b :: r) ++ suf) 0 = Lx.wordV ((b :: r) ++ suf) 0 := by
    unfold tokV
    rw [List.drop_zero, List.cons_append]
    simp only [n1, n2, n3, n4, n5, n6, n7, Bool.false_eq_true, if_false]
  have hw : Lx.wordV ((b :: r) ++ suf) 0 = (0, ⟨8, 0, b :: r, false, 0, (b :: r).length⟩) := by
    unfold Lx.wordV
    rw [List.drop_zero, htw, List.take_left]
    rw [show (((b :: r) ++ suf).headD 0) = b from rfl, show numB b = false from h0]
    simp
  rw [next_zero, hsp, ht, hw]
  rfl

/-! ### a written number -/
theorem allDig_num {l : List UInt8} (h : Fx.allDig l = true) : ∀ b ∈ l, numB b = true ∧ b ≠ 46 := by
  intro b hb
  exact dig_num (List.all_eq_true.1 h b hb)
theorem mag_parts {f : Int} (h : Fx.saneB f = true) : 0 ≤ Fx.mag f / 1000 ∧ Fx.mag f / 1000 ≤ 2147483 ∧ 0 ≤ Fx.mag f % 1000 ∧ Fx.mag f % 1000 ≤ 999 := by
  obtain ⟨b0, b1⟩ := Fx.sane_iff.1 h
  unfold Fx.mag
  split <;> omega
theorem whole_iff (f : Int) : wholeF f = true ↔ Fx.mag f % 1000 = 0 := by
  unfold wholeF Fx.mag
  rw [beq_iff_eq]
  by_cases h : f < 0
  · rw [if_pos h]
    obtain ⟨g, rfl⟩ : ∃ g, f = -g := ⟨-f, by omega⟩
    rw [Int.neg_tmod, Int.tmod_eq_emod_of_nonneg (by omega)]
    omega
  · rw [if_neg h, Int.tmod_eq_emod_of_nonneg (by omega)]
theorem printL_eq {f : Int} (h : Fx.saneB f = true) : Fx.printL f = (if f < 0 then [45] else []) ++ (Lib.itoa (Fx.mag f / 1000) ++ Fx.partT (Fx.mag f % 1000)) := by
  unfold Fx.printL
  rw [if_pos h]
  split <;> simp
theorem part_num {r : Int} (r0 : 0 ≤ r) (r1 : r ≤ 999) : ∀ b ∈ Fx.partT r, numB b = true := by
  unfold Fx.partT
  split
  · intro b hb; cases hb
  · intro b hb
    rcases List.mem_cons.1 hb with rfl | hb
    · rfl
    · exact (allDig_num (Fx.trimT_dig r0 r1).1 b hb).1
theorem print_num {f : Int} (h : Fx.saneB f = true) : Fx.printL f ≠ [] ∧ ∀ b ∈ Fx.printL f, numB b = true := by
  obtain ⟨m0, m1, m2, m3⟩ := mag_parts h
  obtain ⟨i1, i2, -, -⟩ := Fx.itoa_facts m0 m1
  rw [printL_eq h]
  refine ⟨fun e => ?_, fun b hb => ?_⟩
  · have := (List.append_eq_nil_iff.1 (List.append_eq_nil_iff.1 e).2).1
    exact i2 this
  · rcases List.mem_append.1 hb with hb | hb
    · split at hb
      · rw [List.mem_singleton.1 hb]; rfl
      · cases hb
    · rcases List.mem_append.1 hb with hb | hb
      · exact (allDig_num i1 b hb).1
      · exact part_num m2 m3 b hb
theorem idx_no : ∀ (l : List UInt8), (∀ b ∈ l, b ≠ 46) → Lib.indexByte l 46 = -1
  | [], _ => rfl
  | b :: r, h => by
    have h1 := idx_no r (fun c hc => h c (List.mem_cons_of_mem _ hc))
    have h2 : (b == 46) = false := by simpa using h b List.mem_cons_self
    unfold Lib.indexByte
    simp [h2, h1]
theorem idx_yes : ∀ (l : List UInt8), (46 : UInt8) ∈ l → 0 ≤ Lib.indexByte l 46
  | [], h => by cases h
  | b :: r, h => by
    unfold Lib.indexByte
    by_cases hb : b = 46
    · simp [hb]
    · have h2 : (b == 46) = false := by simpa using hb
      have h1 := idx_yes r ((List.mem_cons.1 h).resolve_left (Ne.symm hb))
      simp only [h2, Bool.false_eq_true, if_false]
      split
      · rename_i h3; rw [beq_iff_eq] at h3; omega
      · omega
theorem point_print {f : Int} (h : Fx.saneB f = true) : pointIn (Fx.printL f) = !wholeF f := by
  obtain ⟨m0, m1, m2, m3⟩ := mag_parts h
  obtain ⟨i1, i2, -, -⟩ := Fx.itoa_facts m0 m1
  unfold pointIn
  by_cases hw : wholeF f = true
  · rw [hw]
    have hz := (whole_iff f).1 hw
    have : Lib.indexByte (Fx.printL f) 46 = -1 := by
      refine idx_no _ fun b hb => ?_
      rw [printL_eq h, hz, show Fx.partT 0 = [] from rfl, List.append_nil] at hb
      rcases List.mem_append.1 hb with hb | hb
      · split at hb
        · rw [List.mem_singleton.1 hb]; decide
        · cases hb
      · exact (allDig_num i1 b hb).2
    rw [this]; rfl
  · have hz : ¬ Fx.mag f % 1000 = 0 := fun e => hw ((whole_iff f).2 e)
    rw [Bool.not_eq_true] at hw
    rw [hw]
    have : 0 ≤ Lib.indexByte (Fx.printL f) 46 := by
      refine idx_yes _ ?_
      rw [printL_eq h]
      refine List.mem_append_right _ (List.mem_append_right _ ?_)
      unfold Fx.partT
      rw [if_neg hz]
      exact List.mem_cons_self
    simpa using this
theorem whole_back' {f : Int} (h : Fx.saneB f = true) (hw : wholeF f = true) : Fx.parseV (Fx.printL f ++ [46, 48]) = f ∧ Fx.parseE (Fx.printL f ++ [46, 48]) = 0 := by
  obtain ⟨m0, m1, m2, m3⟩ := mag_parts h
  have hz := (whole_iff f).1 hw
  obtain ⟨b0, b1⟩ := Fx.sane_iff.1 h
  by_cases hn : f < 0
  · obtain ⟨x, rfl⟩ : ∃ x, f = -(1000 * x) := ⟨-f / 1000, by unfold Fx.mag at hz; rw [if_pos hn] at hz; omega⟩
    have h0 : 0 < x := by omega
    have h1 : x ≤ 2147483 := by omega
    obtain ⟨i1, i2, i3, i4⟩ := Fx.itoa_facts (u := x) (by omega) h1
    have e : Fx.printL (-(1000 * x)) = 45 :: Lib.itoa x := by
      rw [Fx.print_minus h (by omega), show 1000 * x / 1000 = x by omega, show 1000 * x % 1000 = 0 by omega, show Fx.partT 0 = [] from rfl, List.append_nil]
    rw [e, List.cons_append]
    obtain ⟨e1, e2⟩ := Fx.cut_point (p := [48]) i1
    obtain ⟨s1, s2⟩ := Fx.sign_dash (Lib.itoa x ++ [46, 48])
    have hlen : (Lib.itoa x).length ≠ 0 := fun h => i2 (List.length_eq_zero_iff.1 h)
    have hnum : Fx.numOf (45 :: (Lib.itoa x ++ [46, 48])) = -(1000 * x) := by
      unfold Fx.numOf
      rw [s1, s2, if_pos rfl, e1, e2, Fx.thou_val (a := 0) (b := 0) (c := 0) i3 (by omega) h1 rfl rfl rfl rfl (by omega) (by omega) (by omega) (by omega)]; omega
    obtain ⟨p1, p2⟩ := Fx.parse_num (l := 45 :: (Lib.itoa x ++ [46, 48])) (by rw [List.length_cons, List.length_append]; simp; omega) (by rw [s2]; exact Fx.form_yes (by rw [e1]; omega) (by rw [e1]; exact i1) (by rw [e2]; rfl))
    rw [p1, p2, hnum, (Fx.chk_sane h).1, (Fx.chk_sane h).2]
    exact ⟨rfl, rfl⟩
  · obtain ⟨x, rfl⟩ : ∃ x, f = 1000 * x := ⟨f / 1000, by unfold Fx.mag at hz; rw [if_neg hn] at hz; omega⟩
    exact Fx.whole_back (by omega) (by omega)
theorem wholeF_mul (x : Int) : wholeF (1000 * x) = true := by
  unfold wholeF; rw [Int.mul_tmod_right]; rfl
/-- A written Num: its token. -/
theorem next_numT {n f : Int} {suf : List UInt8} (h : Fx.saneB f = true) (hn : n = 0 ∨ (n = 1 ∧ wholeF f = true)) (hs : tw reg suf = 0) :
    nextV (numT n f ++ suf) 0 = (0, ⟨1, f, [], decide (n = 1), 0, (numT n f).length⟩) := by
  obtain ⟨p1, p2⟩ := print_num h
  unfold numT
  by_cases hc : n = 0 ∧ wholeF f = true
  · rw [if_pos hc]
    obtain ⟨w1, w2⟩ := whole_back' h hc.2
    have := next_num (t := Fx.printL f ++ [46, 48]) (suf := suf) (fun e => p1 (List.append_eq_nil_iff.1 e).1) (fun b hb => by
      rcases List.mem_append.1 hb with hb | hb
      · exact p2 b hb
      · simp only [List.mem_cons, List.not_mem_nil, or_false] at hb
        rcases hb with rfl | rfl <;> rfl) hs w2
    rw [this, w1]
    have hp : pointIn (Fx.printL f ++ [46, 48]) = true := by
      unfold pointIn
      have := idx_yes (Fx.printL f ++ [46, 48]) (List.mem_append_right _ (by decide))
      simpa using this
    rw [hp, hc.1]; rfl
  · rw [if_neg hc, List.append_nil]
    obtain ⟨b1, b2, -⟩ := Fx.print_back h
    rw [next_num p1 p2 hs b2, b1, point_print h]
    congr 3
    rcases hn with rfl | ⟨rfl, hw⟩
    · cases hw : wholeF f
      · rfl
      · exact absurd ⟨rfl, hw⟩ hc
    · rw [hw]; rfl
/-- A number of whole units, as itoa tells it. -/
theorem itoa_print {n : Int} (h0 : 0 ≤ n) (h1 : n ≤ 2147483) : Lib.itoa n = Fx.printL (1000 * n) := by
  have h : Fx.saneB (1000 * n) = true := by rw [Fx.sane_iff]; omega
  rw [Fx.print_plus h (by omega), show 1000 * n / 1000 = n by omega, show 1000 * n % 1000 = 0 by omega, show Fx.partT 0 = [] from rfl, List.append_nil]
theorem numT_whole (f : Int) : numT 1 f = Fx.printL f := by unfold numT; rw [if_neg (by simp), List.append_nil]

end Go.Proofs.YtbgdeaeikijdgaaGreatDoor.Cx

namespace Go.Proofs.YtbgdeaeikijdgaaGreatDoor.Cx
open Lx
set_option linter.unusedSimpArgs false
set_option linter.unusedVariables false

/-- What may follow an object. -/
def Aft (r : List UInt8) : Prop := tw reg r = 0 ∧ isW (tokOf (nextV r 0)) [82] = false ∧ (wholeT (tokOf (nextV r 0)) = true → isW (tokOf (nextV r ((tokOf (nextV r 0)).to : Nat))) [82] = false)
theorem aft_nil : Aft [] := ⟨rfl, by rw [next_end]; rfl, by rw [next_end]; intro h; exact absurd h (by decide)⟩
theorem aft_cls (r : List UInt8) : Aft (93 :: r) := ⟨rfl, by rw [next_cls]; rfl, by rw [next_cls]; intro h; exact absurd h (by decide)⟩
theorem aft_fin (r : List UInt8) : Aft (62 :: 62 :: r) := ⟨rfl, by rw [next_fin]; rfl, by rw [next_fin]; intro h; exact absurd h (by decide)⟩

/-- A token behind a prefix, errors forgotten. -/
theorem tokOf_app (a r : List UInt8) : tokOf (nextV (a ++ r) a.length) = if (nextV r 0).1 = 0 then { (nextV r 0).2 with frm := (nextV r 0).2.frm + a.length, to := (nextV r 0).2.to + a.length } else zero := by
  rw [next_app]
  by_cases h : (nextV r 0).1 = 0
  · rw [if_pos h, if_pos h]; rfl
  · rw [if_neg h, if_neg h]; unfold tokOf; rw [if_neg h]
theorem tokOf_ok {r : List UInt8} {a : Int} (h : (nextV r a).1 = 0) : tokOf (nextV r a) = (nextV r a).2 := if_pos h
theorem tokOf_no {r : List UInt8} {a : Int} (h : (nextV r a).1 ≠ 0) : tokOf (nextV r a) = zero := if_neg h
theorem whole_app' (a r : List UInt8) : wholeT (tokOf (nextV (a ++ r) a.length)) = wholeT (tokOf (nextV r 0)) := by
  rw [tokOf_app]
  by_cases h : (nextV r 0).1 = 0
  · rw [if_pos h, tokOf_ok h]; rfl
  · rw [if_neg h, tokOf_no h]
theorem isW_app (a r : List UInt8) (s : List UInt8) : isW (tokOf (nextV (a ++ r) a.length)) s = isW (tokOf (nextV r 0)) s := by
  rw [tokOf_app]
  by_cases h : (nextV r 0).1 = 0
  · rw [if_pos h, tokOf_ok h]; rfl
  · rw [if_neg h, tokOf_no h]
/-- A token further on behind a prefix. -/
theorem next_far (a r : List UInt8) (k : Nat) (hk : k ≤ r.length) : tokOf (nextV (a ++ r) ((a.length + k : Nat) : Int)) = tokOf (nextV ((a ++ r.take k) ++ r.drop k) ((a ++ r.take k).length : Int)) := by
  rw [List.append_assoc, List.take_append_drop, List.length_append, List.length_take, Nat.min_eq_left hk]
theorem isW_far (a r : List UInt8) (k : Nat) (hk : k ≤ r.length) (s : List UInt8) : isW (tokOf (nextV (a ++ r) ((a.length + k : Nat) : Int))) s = isW (tokOf (nextV r (k : Int))) s := by
  have h1 := next_far a r k hk
  have h2 := next_far [] r k hk
  rw [List.nil_append, List.length_nil, Nat.zero_add] at h2
  rw [h1, isW_app, h2, List.nil_append, isW_app]
theorem whole_far (a r : List UInt8) (k : Nat) (hk : k ≤ r.length) : wholeT (tokOf (nextV (a ++ r) ((a.length + k : Nat) : Int))) = wholeT (tokOf (nextV r (k : Int))) := by
  have h1 := next_far a r k hk
  have h2 := next_far [] r k hk
  rw [List.nil_append, List.length_nil, Nat.zero_add] at h2
  rw [h1, whole_app', h2, List.nil_append, whole_app']

/-- A number that is no Ref's. -/
theorem number_num {pre t suf : List UInt8} (ha : Aft suf) {T : Tok} (hto : T.to = pre.length + t.length) : numberV (pre ++ (t ++ suf)) T = (numV T, T.to) := by
  unfold numberV
  have e : pre ++ (t ++ suf) = (pre ++ t) ++ suf := by rw [List.append_assoc]
  have h1 : tokOf (nextV (pre ++ (t ++ suf)) (T.to : Int)) = tokOf (nextV ((pre ++ t) ++ suf) ((pre ++ t).length : Int)) := by rw [e, hto, List.length_append]
  by_cases hw : wholeT (tokOf (nextV suf 0)) = true
  · have h2 : isW (tokOf (nextV (pre ++ (t ++ suf)) ((tokOf (nextV (pre ++ (t ++ suf)) (T.to : Int))).to : Int))) [82] = false := by
      have h0 : (nextV suf 0).1 = 0 := by
        by_cases h0 : (nextV suf 0).1 = 0
        · exact h0
        · rw [tokOf_no h0] at hw; exact absurd hw (by decide)
      have h3 : (tokOf (nextV (pre ++ (t ++ suf)) (T.to : Int))).to = (pre ++ t).length + (tokOf (nextV suf 0)).to := by
        rw [h1, tokOf_app, if_pos h0, tokOf_ok h0]
        simp only []
        omega
      have hle : (tokOf (nextV suf 0)).to ≤ suf.length := by
        rw [tokOf_ok h0]; exact (next_le suf 0 h0).2
      rw [h3, e, isW_far _ _ _ hle]
      exact ha.2.2 hw
    rw [h2]
    simp only [Bool.false_eq_true, if_false, ite_self]
  · rw [h1, whole_app', if_neg hw]
    simp only [ite_self]

mutual
/-- An object with its own kind's fields alone. -/
def Ob.norm : Ob → Ob
  | .mk k n f s l d => .mk k (if k = 1 ∨ k = 2 ∨ k = 7 then n else 0) (if k = 2 ∨ k = 7 then f else 0) (if k = 3 ∨ k = 4 ∨ k = 8 then s else ⟨#[]⟩) (if k = 5 then normL l else []) (if k = 6 ∨ k = 8 then normD d else [])
def normL : List Ob → List Ob
  | [] => []
  | x :: r => x.norm :: normL r
def normD : List (ByteArray × Ob) → List (ByteArray × Ob)
  | [] => []
  | (key, x) :: r => (key, x.norm) :: normD r
end
theorem norm_mk (k n f : Int) (s : ByteArray) (l : List Ob) (d : List Entr) : (Ob.mk k n f s l d).norm = .mk k (if k = 1 ∨ k = 2 ∨ k = 7 then n else 0) (if k = 2 ∨ k = 7 then f else 0) (if k = 3 ∨ k = 4 ∨ k = 8 then s else ⟨#[]⟩) (if k = 5 then normL l else []) (if k = 6 ∨ k = 8 then normD d else []) := by rw [Ob.norm]
theorem normL_map : ∀ l : List Ob, normL l = l.map Ob.norm
  | [] => by rw [normL]; rfl
  | x :: r => by rw [normL, normL_map r, List.map_cons]
theorem normD_map : ∀ l : List Entr, normD l = l.map (fun e => (e.1, e.2.norm))
  | [] => by rw [normD]; rfl
  | (key, x) :: r => by rw [normD, normD_map r, List.map_cons]
theorem norm_k (o : Ob) : o.norm.k = o.k := by obtain ⟨k, n, f, s, l, d⟩ := o; rw [norm_mk]; rfl

/-- An object's text is read, whatever stands ahead of it, and ahead of what may follow. -/
def RdC (o : Ob) (dep : Nat) : Prop := ∀ (pre suf : List UInt8) (F : Nat), Aft suf → o.text.length + 1 ≤ F →
  (nextV (pre ++ (o.text ++ suf)) pre.length).1 = 0 ∧ (nextV (pre ++ (o.text ++ suf)) pre.length).2.kind ≠ 0 ∧ (nextV (pre ++ (o.text ++ suf)) pre.length).2.kind ≠ 5 ∧
    objOf F (pre ++ (o.text ++ suf)) dep (nextV (pre ++ (o.text ++ suf)) pre.length).2 = (0, o.norm, pre.length + o.text.length)

theorem isTok_in (pre : List UInt8) {t suf : List UInt8} {kind f : Int} {s : List UInt8} {wh : Bool} {frm to : Nat} (h : nextV (t ++ suf) 0 = (0, ⟨kind, f, s, wh, frm, to⟩)) : IsTok (pre ++ (t ++ suf)) pre.length kind f s wh (pre.length + to) := isTok_app pre (t ++ suf) h

/-- A word that stands for an object. -/
theorem rd_word {o x : Ob} {dep : Nat} {t : List UInt8} (ht : o.text = t) (hx : o.norm = x) (hn : t ≠ []) (hb : ∀ b ∈ t, reg b = true) (h0 : numB (t.headD 0) = false) (hw : Cx.wordV t = (0, x)) : RdC o dep := by
  intro pre suf F ha hF
  rw [ht] at hF ⊢
  obtain ⟨c0, c1, c2, c3, c4, c5⟩ := isTok_in pre (next_word hn hb h0 ha.1)
  refine ⟨c0, by rw [c1]; decide, by rw [c1]; decide, ?_⟩
  obtain ⟨G, rfl⟩ : ∃ G, F = G + 1 := ⟨F - 1, by omega⟩
  rw [objOf]
  simp only [c1, c3, c5, hw, hx, if_true, if_false, show ¬ ((8 : Int) = 0) by decide, show ¬ ((8 : Int) = 1) by decide, show ¬ ((8 : Int) = 2) by decide, show ¬ ((8 : Int) = 3) by decide]
theorem aft_more {suf : List UInt8} (ha : tw reg suf = 0) : suf = [] ∨ ∃ b r, suf = b :: r ∧ reg b = false := by
  cases suf with
  | nil => exact .inl rfl
  | cons b r =>
    refine .inr ⟨b, r, rfl, ?_⟩
    cases h : reg b with
    | false => rfl
    | true => rw [tw, if_pos h] at ha; omega
theorem str_list (s : ByteArray) : str s.data.toList = s := by cases s; simp [str]

theorem rd_null (n f : Int) (s : ByteArray) (l : List Ob) (d : List Entr) (dep : Nat) : RdC (.mk 0 n f s l d) dep :=
  rd_word (t := nullT) (x := nul) (by rw [text_mk]; rfl) (by rw [norm_mk]; rfl) (by decide) (by decide) (by decide) rfl
theorem rd_bool (n f : Int) (s : ByteArray) (l : List Ob) (d : List Entr) (dep : Nat) (hn : n = 0 ∨ n = 1) : RdC (.mk 1 n f s l d) dep := by
  rcases hn with rfl | rfl
  · exact rd_word (t := falseT) (x := .mk 1 0 0 ⟨#[]⟩ [] []) (by rw [text_mk]; rfl) (by rw [norm_mk]; rfl) (by decide) (by decide) (by decide) rfl
  · exact rd_word (t := trueT) (x := .mk 1 1 0 ⟨#[]⟩ [] []) (by rw [text_mk]; rfl) (by rw [norm_mk]; rfl) (by decide) (by decide) (by decide) rfl
theorem rd_num (n f : Int) (s : ByteArray) (l : List Ob) (d : List Entr) (dep : Nat) (h : Fx.saneB f = true) (hn : n = 0 ∨ (n = 1 ∧ wholeF f = true)) : RdC (.mk 2 n f s l d) dep := by
  intro pre suf F ha hF
  have ht : (Ob.mk 2 n f s l d).text = numT n f := by rw [text_mk]; rfl
  rw [ht] at hF ⊢
  have hc := isTok_in pre (next_numT h hn ha.1)
  obtain ⟨c0, c1, c2, c3, c4, c5⟩ := hc
  refine ⟨c0, by rw [c1]; decide, by rw [c1]; decide, ?_⟩
  obtain ⟨G, rfl⟩ : ∃ G, F = G + 1 := ⟨F - 1, by omega⟩
  have hnum := number_num (pre := pre) (t := numT n f) ha c5
  rw [objOf, if_neg (by rw [c1]; decide), if_pos c1, hnum]
  have hv : numV (nextV (pre ++ (numT n f ++ suf)) pre.length).2 = (Ob.mk 2 n f s l d).norm := by
    unfold numV
    rw [c2, c4, norm_mk]
    rcases hn with rfl | ⟨rfl, -⟩ <;> rfl
  simp only [hv, c5]
theorem rd_name (n f : Int) (s : ByteArray) (l : List Ob) (d : List Entr) (dep : Nat) : RdC (.mk 3 n f s l d) dep := by
  intro pre suf F ha hF
  have ht : (Ob.mk 3 n f s l d).text = nameV s.data.toList := by rw [text_mk]; rfl
  rw [ht] at hF ⊢
  obtain ⟨c0, c1, c2, c3, c4, c5⟩ := isTok_in pre (Lx.next_name s.data.toList suf (aft_more ha.1))
  refine ⟨c0, by rw [c1]; decide, by rw [c1]; decide, ?_⟩
  obtain ⟨G, rfl⟩ : ∃ G, F = G + 1 := ⟨F - 1, by omega⟩
  rw [objOf]
  simp only [c1, c3, c5, norm_mk, str_list, if_true, if_false, show ¬ ((2 : Int) = 0) by decide, show ¬ ((2 : Int) = 1) by decide]
  simp
theorem rd_str (n f : Int) (s : ByteArray) (l : List Ob) (d : List Entr) (dep : Nat) : RdC (.mk 4 n f s l d) dep := by
  intro pre suf F ha hF
  have ht : (Ob.mk 4 n f s l d).text = quoteV s.data.toList := by rw [text_mk]; rfl
  rw [ht] at hF ⊢
  obtain ⟨c0, c1, c2, c3, c4, c5⟩ := isTok_in pre (next_quote s.data.toList suf)
  refine ⟨c0, by rw [c1]; decide, by rw [c1]; decide, ?_⟩
  obtain ⟨G, rfl⟩ : ∃ G, F = G + 1 := ⟨F - 1, by omega⟩
  rw [objOf]
  simp only [c1, c3, c5, norm_mk, str_list, if_true, if_false, show ¬ ((3 : Int) = 0) by decide, show ¬ ((3 : Int) = 1) by decide, show ¬ ((3 : Int) = 2) by decide]
  simp

/-! ### a Ref -/
theorem tw_blank (r : List UInt8) : tw reg (32 :: r) = 0 := rfl
theorem next_blank (r : List UInt8) : (nextV (32 :: r) 0).1 = (nextV r 0).1 ∧ ((nextV r 0).1 = 0 → (nextV (32 :: r) 0).2 = { (nextV r 0).2 with frm := (nextV r 0).2.frm + 1, to := (nextV r 0).2.to + 1 }) := by
  have h1 := next_white [] r
  have h2 := next_app [32] r
  simp only [List.nil_append, List.length_nil, Nat.zero_add, List.length_cons, List.singleton_append] at h1 h2
  rw [show ((0 : Nat) : Int) = 0 from rfl] at h1
  rw [h1]
  by_cases h : (nextV r 0).1 = 0
  · rw [show (((1 : Nat)) : Int) = ((0 + 1 : Nat) : Int) from rfl] at h2 ⊢
    rw [h2, if_pos h]
    exact ⟨h.symm, fun _ => rfl⟩
  · rw [show (((1 : Nat)) : Int) = ((0 + 1 : Nat) : Int) from rfl] at h2 ⊢
    rw [h2, if_neg h]
    exact ⟨rfl, fun h' => absurd h' h⟩
theorem wholeF_nn {f : Int} (h0 : 0 ≤ f) (hw : wholeF f = true) : ∃ x, 0 ≤ x ∧ f = 1000 * x := by
  have hz := (whole_iff f).1 hw
  unfold Fx.mag at hz
  rw [if_neg (by omega)] at hz
  exact ⟨f / 1000, by omega, by omega⟩
theorem rd_ref (n f : Int) (s : ByteArray) (l : List Ob) (d : List Entr) (dep : Nat) (h0 : 0 ≤ n) (h1 : n ≤ 2147483) (f0 : 0 ≤ f) (hf : Fx.saneB f = true) (hw : wholeF f = true) : RdC (.mk 7 n f s l d) dep := by
  intro pre suf F ha hF
  have hs : Fx.saneB (1000 * n) = true := by rw [Fx.sane_iff]; omega
  have ht : (Ob.mk 7 n f s l d).text = numT 1 (1000 * n) ++ (32 :: (numT 1 f ++ (32 :: [82]))) := by rw [text_mk, numT_whole, numT_whole, ← itoa_print h0 h1]; simp
  rw [ht] at hF ⊢
  obtain ⟨A, hA⟩ : ∃ A, A = numT 1 (1000 * n) := ⟨_, rfl⟩
  obtain ⟨B, hB⟩ : ∃ B, B = numT 1 f := ⟨_, rfl⟩
  have ta : nextV (A ++ (32 :: (B ++ (32 :: 82 :: suf)))) 0 = (0, ⟨1, 1000 * n, [], true, 0, A.length⟩) := by
    rw [hA]; exact next_numT hs (.inr ⟨rfl, wholeF_mul n⟩) (tw_blank _)
  have tb : nextV (B ++ (32 :: 82 :: suf)) 0 = (0, ⟨1, f, [], true, 0, B.length⟩) := by
    rw [hB]; exact next_numT hf (.inr ⟨rfl, hw⟩) (tw_blank _)
  have tr : nextV ([82] ++ suf) 0 = (0, ⟨8, 0, [82], false, 0, 1⟩) := next_word (by decide) (by decide) (by decide) ha.1
  rw [← hA, ← hB]
  rw [← hA, ← hB] at hF
  have hF1 : 1 ≤ F := by omega
  clear ht hA hB hF
  have e0 : pre ++ (A ++ (32 :: (B ++ (32 :: [82]))) ++ suf) = pre ++ (A ++ (32 :: (B ++ (32 :: 82 :: suf)))) := by simp
  have e1 : pre ++ (A ++ (32 :: (B ++ (32 :: 82 :: suf)))) = (pre ++ A) ++ (32 :: (B ++ (32 :: 82 :: suf))) := by simp
  have e2 : (pre ++ A) ++ (32 :: (B ++ (32 :: 82 :: suf))) = (pre ++ A ++ [32]) ++ (B ++ (32 :: 82 :: suf)) := by simp
  have e3 : (pre ++ A ++ [32]) ++ (B ++ (32 :: 82 :: suf)) = (pre ++ A ++ [32] ++ B) ++ (32 :: (82 :: suf)) := by simp
  have e4 : (pre ++ A ++ [32] ++ B) ++ (32 :: (82 :: suf)) = (pre ++ A ++ [32] ++ B ++ [32]) ++ ([82] ++ suf) := by simp
  have k1 := isTok_app pre _ ta
  have k2 := next_white (pre ++ A) (B ++ (32 :: 82 :: suf))
  have k3 := isTok_app (pre ++ A ++ [32]) _ tb
  have k4 := next_white (pre ++ A ++ [32] ++ B) (82 :: suf)
  have k5 := isTok_app (pre ++ A ++ [32] ++ B ++ [32]) _ tr
  rw [← e4, ← e3, ← e2, ← e1] at k5
  rw [← e3, ← e2, ← e1] at k4
  rw [← e2, ← e1] at k3
  rw [← e1] at k2
  rw [e0]
  simp only [List.length_append, List.length_cons, List.length_nil, Nat.zero_add] at k1 k2 k3 k4 k5
  obtain ⟨L, hL⟩ : ∃ L, L = pre ++ (A ++ (32 :: (B ++ (32 :: 82 :: suf)))) := ⟨_, rfl⟩
  rw [← hL] at k1 k2 k3 k4 k5 ⊢
  clear hL e0 e1 e2 e3 e4 ta tb tr
  obtain ⟨a0, a1, a2, a3, a4, a5⟩ := k1
  obtain ⟨b0, b1, b2, b3, b4, b5⟩ := k3
  obtain ⟨r0, r1, r2, r3, r4, r5⟩ := k5
  refine ⟨a0, by rw [a1]; decide, by rw [a1]; decide, ?_⟩
  obtain ⟨G, rfl⟩ : ∃ G, F = G + 1 := ⟨F - 1, by omega⟩
  have hwA : wholeT (nextV L (pre.length : Int)).2 = true := by unfold wholeT; rw [a1, a2, a4]; simp; omega
  have hwB : wholeT (tokOf (nextV L ((nextV L (pre.length : Int)).2.to : Int))) = true := by
    rw [a5, k2, tokOf_ok b0]; unfold wholeT; rw [b1, b2, b4]; simpa using f0
  have hto : (tokOf (nextV L ((nextV L (pre.length : Int)).2.to : Int))).to = pre.length + A.length + 1 + B.length := by rw [a5, k2, tokOf_ok b0, b5]
  have hR : isW (tokOf (nextV L ((tokOf (nextV L ((nextV L (pre.length : Int)).2.to : Int))).to : Int))) [82] = true := by
    rw [hto, k4, tokOf_ok r0]; unfold isW; rw [r1, r3]; rfl
  have hend : (tokOf (nextV L ((tokOf (nextV L ((nextV L (pre.length : Int)).2.to : Int))).to : Int))).to = pre.length + A.length + 1 + B.length + 1 + 1 := by
    rw [hto, k4, tokOf_ok r0, r5]
  have hff : (tokOf (nextV L ((nextV L (pre.length : Int)).2.to : Int))).f = f := by rw [a5, k2, tokOf_ok b0, b2]
  have hnv : numberV L (nextV L (pre.length : Int)).2 = (.mk 7 n f ⟨#[]⟩ [] [], pre.length + A.length + 1 + B.length + 1 + 1) := by
    unfold numberV
    rw [if_pos hwA, if_pos hwB, if_pos hR, hend, hff, a2, show (1000 * n).tdiv 1000 = n by rw [Int.tdiv_eq_ediv_of_nonneg (by omega)]; omega]
  rw [objOf, if_neg (by rw [a1]; decide), if_pos a1, hnv, norm_mk]
  simp
  omega

/-! ### what stands behind an object within a list -/
theorem aft_blank {r : List UInt8} {T : Tok} (h : nextV r 0 = (0, T)) (hT : T.to ≤ r.length) (h1 : isW T [82] = false) (h2 : wholeT T = true → isW (tokOf (nextV r (T.to : Int))) [82] = false) : Aft (32 :: r) := by
  obtain ⟨b1, b2⟩ := next_blank r
  have h0 : (nextV r 0).1 = 0 := by rw [h]
  have e : tokOf (nextV (32 :: r) 0) = { T with frm := T.frm + 1, to := T.to + 1 } := by
    rw [tokOf_ok (b1.trans h0), b2 h0, h]
  refine ⟨rfl, by rw [e]; exact h1, fun hw => ?_⟩
  rw [e] at hw ⊢
  have := isW_far [32] r T.to hT [82]
  simp only [List.singleton_append, List.length_cons, List.length_nil, Nat.zero_add] at this
  rw [show (({ T with frm := T.frm + 1, to := T.to + 1 } : Tok).to : Int) = ((1 + T.to : Nat) : Int) by simp; omega, this]
  exact h2 hw
theorem kind_noW {T : Tok} (h : T.kind ≠ 8) (s : List UInt8) : isW T s = false := by
  unfold isW; rw [show (T.kind == 8) = false by simpa using h]; rfl
theorem kind_noN {T : Tok} (h : T.kind ≠ 1) : wholeT T = false := by
  unfold wholeT; rw [show (T.kind == 1) = false by simpa using h]; rfl
/-- The next token right behind a text. -/
theorem isW_behind (t r : List UInt8) (s : List UInt8) : isW (tokOf (nextV (t ++ r) (t.length : Int))) s = isW (tokOf (nextV r 0)) s := isW_app t r s
theorem aft_name (key r : List UInt8) : Aft (32 :: (nameV key ++ (32 :: r))) := by
  have h := Lx.next_name key (32 :: r) (.inr ⟨32, r, rfl, rfl⟩)
  exact aft_blank h (by simp) (kind_noW (by simp) _) (fun hw => by rw [kind_noN (by simp)] at hw; cases hw)
theorem word_aft {t suf : List UInt8} (hn : t ≠ []) (hb : ∀ b ∈ t, reg b = true) (h0 : numB (t.headD 0) = false) (h82 : t ≠ [82]) (hs : Aft suf) : Aft (32 :: (t ++ suf)) := by
  refine aft_blank (next_word hn hb h0 hs.1) (by simp) ?_ (fun hw => by rw [kind_noN (by simp)] at hw; cases hw)
  unfold isW; simp [h82]
/-- What an object is that may be. -/
inductive Fact (k n f : Int) (l : List Ob) (d : List Entr) (dep : Nat) : Prop
  | flat (h : k = 0 ∨ k = 3 ∨ k = 4)
  | bool (h : k = 1) (hn : n = 0 ∨ n = 1)
  | num (h : k = 2) (hf : Fx.saneB f = true) (hn : n = 0 ∨ (n = 1 ∧ wholeF f = true))
  | arr (h : k = 5) (hl : l.length ≤ 1024) (hd : dep < 64)
  | ref (h : k = 7) (h0 : 0 ≤ n) (h1 : n ≤ 2147483) (f0 : 0 ≤ f) (hf : Fx.saneB f = true) (hw : wholeF f = true)
  | dict (h : k = 6) (hs : senseD [] d = true) (hl : d.length ≤ 1024) (hd : dep < 64)
  | stream (h : k = 8) (hs : senseD [] d = true) (hl : d.length ≤ 1024) (hd : dep = 0)
theorem fact_of {k n f : Int} {s : ByteArray} {l : List Ob} {d : List Entr} {dep : Nat} (h : own (.mk k n f s l d) dep = 0) : Fact k n f l d dep := by
  obtain ⟨S, hS⟩ : ∃ S, S = (Ob.mk k n f s l d).sense := ⟨_, rfl⟩
  obtain ⟨R, hR⟩ : ∃ R, R = (Ob.mk k n f s l d).inRange := ⟨_, rfl⟩
  obtain ⟨M, hM⟩ : ∃ M, M = (Ob.mk k n f s l d).many := ⟨_, rfl⟩
  obtain ⟨N, hN⟩ : ∃ N, N = (Ob.mk k n f s l d).nest := ⟨_, rfl⟩
  have h1 : (if !S || (k == 8 && decide (0 < dep)) then (1 : Int) else if !R then 2 else if M then 6 else if N && decide (64 ≤ dep) then 5 else 0) = 0 := by rw [hS, hR, hM, hN]; exact h
  have hs1 : S = if k = 0 ∨ k = 3 ∨ k = 4 ∨ k = 5 then true else if k = 1 then n == 0 || n == 1 else if k = 2 then n == 0 || (n == 1 && wholeF f) else if k = 7 then decide (0 ≤ n) && (decide (0 ≤ f) && wholeF f) else if k = 6 ∨ k = 8 then senseD [] d else false := hS
  have hr1 : R = if k = 2 then Fx.saneB f else if k = 7 then Fx.saneB f && decide (n ≤ 2147483) else true := hR
  have hm1 : M = ((k == 5 && decide (1024 < l.length)) || ((k == 6 || k == 8) && decide (1024 < d.length))) := hM
  have hn1 : N = (k == 5 || (k == 6 || k == 8)) := hN
  clear hS hR hM hN h
  by_cases c1 : (!S || (k == 8 && decide (0 < dep))) = true
  · rw [if_pos c1] at h1; exact absurd h1 (by decide)
  rw [if_neg c1] at h1
  by_cases c2 : (!R) = true
  · rw [if_pos c2] at h1; exact absurd h1 (by decide)
  rw [if_neg c2] at h1
  by_cases c3 : M = true
  · rw [if_pos c3] at h1; exact absurd h1 (by decide)
  rw [if_neg c3] at h1
  by_cases c4 : (N && decide (64 ≤ dep)) = true
  · rw [if_pos c4] at h1; exact absurd h1 (by decide)
  clear h1
  have S1 : S = true := by cases S <;> simp at c1 ⊢
  have R1 : R = true := by cases R <;> simp at c2 ⊢
  rw [S1] at hs1
  rw [R1] at hr1
  rw [hm1] at c3
  rw [hn1] at c4
  have c5 : k = 8 → dep = 0 := fun e => by subst e; simp [S1] at c1; exact c1
  by_cases k0 : k = 0 ∨ k = 3 ∨ k = 4
  · exact .flat k0
  by_cases k5 : k = 5
  · subst k5; simp at c3 c4; exact .arr rfl c3 c4
  rw [if_neg (by omega)] at hs1
  by_cases k1 : k = 1
  · rw [if_pos k1] at hs1; exact .bool k1 (by simpa using hs1)
  rw [if_neg k1] at hs1
  by_cases k2 : k = 2
  · rw [if_pos k2] at hs1 hr1; exact .num k2 hr1.symm (by simpa using hs1)
  rw [if_neg k2] at hs1 hr1
  by_cases k7 : k = 7
  · rw [if_pos k7] at hs1 hr1
    have a : 0 ≤ n ∧ 0 ≤ f ∧ wholeF f = true := by simpa using hs1
    have b : Fx.saneB f = true ∧ n ≤ 2147483 := by simpa using hr1
    exact .ref k7 a.1 b.2 a.2.1 b.1 a.2.2
  rw [if_neg k7] at hs1
  by_cases k6 : k = 6
  · subst k6; simp at c3 c4 hs1; exact .dict rfl hs1 c3 c4
  by_cases k8 : k = 8
  · subst k8; simp at c3 c4 hs1; exact .stream rfl hs1 c3 (c5 rfl)
  · rw [if_neg (by omega)] at hs1; cases hs1

theorem text5 (n f : Int) (s : ByteArray) (l : List Ob) (d : List Entr) : (Ob.mk 5 n f s l d).text = 91 :: (textL false l ++ [93]) := by rw [text_mk]; rfl
theorem text6 (n f : Int) (s : ByteArray) (l : List Ob) (d : List Entr) : (Ob.mk 6 n f s l d).text = [60, 60] ++ textD false d ++ [62, 62] := by rw [text_mk]; rfl
theorem text7 (n f : Int) (s : ByteArray) (l : List Ob) (d : List Entr) (h0 : 0 ≤ n) (h1 : n ≤ 2147483) : (Ob.mk 7 n f s l d).text = numT 1 (1000 * n) ++ (32 :: (numT 1 f ++ [32, 82])) := by rw [text_mk, numT_whole, numT_whole, ← itoa_print h0 h1]; simp
theorem numT_ne {n f : Int} (h : Fx.saneB f = true) : 1 ≤ (numT n f).length := by
  have := (print_num h).1
  have h2 : 1 ≤ (Fx.printL f).length := by
    cases e : Fx.printL f with
    | nil => exact absurd e this
    | cons b r => simp
  unfold numT; rw [List.length_append]; omega
/-- Ahead of an object that may be, behind a blank. -/
theorem aft_text (y : Ob) (dep : Nat) (hy : own y dep = 0) (h8 : y.k ≠ 8) {suf : List UInt8} (hs : Aft suf) : Aft (32 :: (y.text ++ suf)) := by
  obtain ⟨k, n, f, s, l, d⟩ := y
  cases fact_of hy with
  | flat h =>
    rcases h with rfl | rfl | rfl
    · rw [show (Ob.mk 0 n f s l d).text = nullT by rw [text_mk]; rfl]; exact word_aft (by decide) (by decide) (by decide) (by decide) hs
    · rw [show (Ob.mk 3 n f s l d).text = nameV s.data.toList by rw [text_mk]; rfl]
      exact aft_blank (Lx.next_name _ suf (aft_more hs.1)) (by simp) (kind_noW (by simp) _) (fun hw => by rw [kind_noN (by simp)] at hw; cases hw)
    · rw [show (Ob.mk 4 n f s l d).text = quoteV s.data.toList by rw [text_mk]; rfl]
      exact aft_blank (next_quote _ suf) (by simp) (kind_noW (by simp) _) (fun hw => by rw [kind_noN (by simp)] at hw; cases hw)
  | bool h hn =>
    subst h
    rcases hn with rfl | rfl
    · rw [show (Ob.mk 1 0 f s l d).text = falseT by rw [text_mk]; rfl]; exact word_aft (by decide) (by decide) (by decide) (by decide) hs
    · rw [show (Ob.mk 1 1 f s l d).text = trueT by rw [text_mk]; rfl]; exact word_aft (by decide) (by decide) (by decide) (by decide) hs
  | num h hf hn =>
    subst h
    rw [show (Ob.mk 2 n f s l d).text = numT n f by rw [text_mk]; rfl]
    refine aft_blank (next_numT hf hn hs.1) (by simp) (kind_noW (by simp) _) (fun _ => ?_)
    simp only []
    rw [isW_behind]; exact hs.2.1
  | arr h hl hd =>
    subst h
    rw [text5]
    exact aft_blank (next_arr _) (by simp) (kind_noW (by simp) _) (fun hw => by rw [kind_noN (by simp)] at hw; cases hw)
  | dict h hs' hl hd =>
    subst h
    rw [text6]
    exact aft_blank (next_dict _) (by simp) (kind_noW (by simp) _) (fun hw => by rw [kind_noN (by simp)] at hw; cases hw)
  | stream h => exact absurd h h8
  | ref h h0 h1 f0 hf hw =>
    subst h
    have hsn : Fx.saneB (1000 * n) = true := by rw [Fx.sane_iff]; omega
    have e : (Ob.mk 7 n f s l d).text ++ suf = numT 1 (1000 * n) ++ (32 :: (numT 1 f ++ (32 :: 82 :: suf))) := by rw [text7 n f s l d h0 h1]; simp
    rw [e]
    have ht := next_numT (n := 1) (suf := 32 :: (numT 1 f ++ (32 :: 82 :: suf))) hsn (.inr ⟨rfl, wholeF_mul n⟩) (tw_blank _)
    refine aft_blank ht (by simp) (kind_noW (by simp) _) (fun _ => ?_)
    simp only []
    rw [isW_behind]
    have ht2 := next_numT (n := 1) (suf := 32 :: 82 :: suf) hf (.inr ⟨rfl, hw⟩) (tw_blank _)
    obtain ⟨b1, b2⟩ := next_blank (numT 1 f ++ (32 :: 82 :: suf))
    have h0 : (nextV (numT 1 f ++ (32 :: 82 :: suf)) 0).1 = 0 := by rw [ht2]
    rw [tokOf_ok (b1.trans h0), b2 h0, ht2]
    exact kind_noW (by simp) _
theorem text_ne (o : Ob) (dep : Nat) (hy : own o dep = 0) (h8 : o.k ≠ 8) : 1 ≤ o.text.length := by
  obtain ⟨k, n, f, s, l, d⟩ := o
  cases fact_of hy with
  | flat h =>
    rcases h with rfl | rfl | rfl
    · rw [show (Ob.mk 0 n f s l d).text = nullT by rw [text_mk]; rfl]; decide
    · rw [show (Ob.mk 3 n f s l d).text = nameV s.data.toList by rw [text_mk]; rfl]; simp [nameV]
    · rw [show (Ob.mk 4 n f s l d).text = quoteV s.data.toList by rw [text_mk]; rfl]; simp [quoteV]
  | bool h hn =>
    subst h
    rcases hn with rfl | rfl
    · rw [show (Ob.mk 1 0 f s l d).text = falseT by rw [text_mk]; rfl]; decide
    · rw [show (Ob.mk 1 1 f s l d).text = trueT by rw [text_mk]; rfl]; decide
  | num h hf hn => subst h; rw [show (Ob.mk 2 n f s l d).text = numT n f by rw [text_mk]; rfl]; exact numT_ne hf
  | arr h hl hd => subst h; rw [text5]; simp
  | dict h hs' hl hd => subst h; rw [text6]; simp
  | stream h => exact absurd h h8
  | ref h h0 h1 f0 hf hw => subst h; rw [text7 n f s l d h0 h1]; simp; omega

/-! ### lists -/
theorem upO_step (F : Nat) {l : List UInt8} {dep p to : Nat} {x : Ob} {acc : List Ob} (h0 : (nextV l p).1 = 0) (h1 : (nextV l p).2.kind ≠ 0) (h2 : (nextV l p).2.kind ≠ 5) (hl : acc.length < 1024) (ho : objOf F l dep (nextV l p).2 = (0, x, to)) : upO (F + 1) l dep acc p = upO F l dep (acc ++ [x]) to := by
  rw [upO, if_neg (by rw [h0]; decide), if_neg h2, if_neg h1, if_neg (by omega), ho, if_pos rfl]
theorem textL_blank (b : Bool) (x : Ob) (r : List Ob) : textL b (x :: r) = (if b then [32] else []) ++ (x.text ++ textL true r) := by rw [textL_cons, List.append_assoc]
theorem aft_list (dep : Nat) (suf : List UInt8) : ∀ (r : List Ob), (∀ x ∈ r, own x dep = 0 ∧ x.k ≠ 8) → Aft (textL true r ++ (93 :: suf))
  | [], _ => by rw [textL_nil]; exact aft_cls suf
  | y :: r, h => by
    rw [textL_blank, if_pos rfl, List.append_assoc, List.append_assoc]
    exact aft_text y dep (h y List.mem_cons_self).1 (h y List.mem_cons_self).2 (aft_list dep suf r (fun x hx => h x (List.mem_cons_of_mem _ hx)))
theorem upO_list (dep : Nat) : ∀ (xs : List Ob) (b : Bool) (pre suf : List UInt8) (acc : List Ob) (F : Nat), (∀ x ∈ xs, RdC x dep ∧ own x dep = 0 ∧ x.k ≠ 8) → acc.length + xs.length ≤ 1024 → (textL b xs).length + 2 ≤ F →
    upO F (pre ++ (textL b xs ++ (93 :: suf))) dep acc pre.length = (0, acc ++ xs.map Ob.norm, pre.length + (textL b xs).length + 1)
  | [], b, pre, suf, acc, F, _, _, hF => by
    obtain ⟨G, rfl⟩ : ∃ G, F = G + 1 := ⟨F - 1, by omega⟩
    rw [textL_nil, List.nil_append]
    have h := isTok_app pre (93 :: suf) (next_cls suf)
    rw [upO_end G dep acc h]; simp
  | x :: r, b, pre, suf, acc, F, hx, hl, hF => by
    obtain ⟨hr, hy, h8⟩ := hx x List.mem_cons_self
    have hlen := text_ne x dep hy h8
    rw [textL_blank] at hF ⊢
    have ha : Aft (textL true r ++ (93 :: suf)) := aft_list dep suf r (fun y hy => (hx y (List.mem_cons_of_mem _ hy)).2)
    obtain ⟨B, hB⟩ : ∃ B : List UInt8, B = if b then [32] else [] := ⟨_, rfl⟩
    rw [← hB] at hF ⊢
    simp only [List.length_append] at hF
    obtain ⟨G, rfl⟩ : ∃ G, F = G + 1 := ⟨F - 1, by omega⟩
    have e : pre ++ (B ++ (x.text ++ textL true r) ++ (93 :: suf)) = (pre ++ B) ++ (x.text ++ (textL true r ++ (93 :: suf))) := by simp
    have hnx : nextV (pre ++ (B ++ (x.text ++ textL true r) ++ (93 :: suf))) (pre.length : Int) = nextV (pre ++ (B ++ (x.text ++ textL true r) ++ (93 :: suf))) ((pre ++ B).length : Int) := by
      cases b with
      | false => simp only [Bool.false_eq_true, if_false] at hB; subst hB; simp
      | true =>
        simp only [if_true] at hB; subst hB
        have := next_white pre (x.text ++ (textL true r ++ (93 :: suf)))
        rw [show pre ++ ([32] ++ (x.text ++ textL true r) ++ (93 :: suf)) = pre ++ 32 :: (x.text ++ (textL true r ++ (93 :: suf))) by simp, this]; simp
    obtain ⟨r0, r1, r2, r3⟩ := hr (pre ++ B) (textL true r ++ (93 :: suf)) G ha (by omega)
    rw [← e] at r0 r1 r2 r3
    rw [← hnx] at r0 r1 r2 r3
    rw [upO_step G r0 r1 r2 (by simp only [List.length_cons] at hl; omega) r3]
    have ih := upO_list dep r true (pre ++ B ++ x.text) suf (acc ++ [x.norm]) G (fun y hy => hx y (List.mem_cons_of_mem _ hy)) (by simp only [List.length_append, List.length_cons, List.length_nil] at hl ⊢; omega) (by omega)
    have e2 : pre ++ (B ++ (x.text ++ textL true r) ++ (93 :: suf)) = (pre ++ B ++ x.text) ++ (textL true r ++ (93 :: suf)) := by simp
    rw [← e2] at ih
    rw [show (pre ++ B ++ x.text).length = (pre ++ B).length + x.text.length by rw [List.length_append]] at ih
    rw [ih]
    simp
    omega

theorem upE_step (F : Nat) {l : List UInt8} {dep p p1 to : Nat} {f : Int} {s : List UInt8} {wh : Bool} {x : Ob} {acc : List Entr} (h : IsTok l p 2 f s wh p1) (h0 : (nextV l p1).1 = 0) (hl : acc.length < 1024) (ho : objOf F l dep (nextV l p1).2 = (0, x, to)) : upE (F + 2) l dep acc p = upE (F + 1) l dep (acc ++ [(str s, x)]) to := by
  have he := ent_one (dep := dep) F h
  rw [if_neg (by rw [h0]; decide), ho, if_pos rfl] at he
  obtain ⟨c0, c1, -, c3, -, c5⟩ := h
  rw [upE, if_neg (by rw [c0]; decide), if_neg (by rw [c1]; decide), if_neg (by rw [c1]; decide), if_neg (by omega), he, if_pos rfl]
theorem textD_blank (b : Bool) (e : Entr) (r : List Entr) : textD b (e :: r) = (if b then [32] else []) ++ (nameV e.1.data.toList ++ (32 :: (e.2.text ++ textD true r))) := by rw [textD_cons]; simp
theorem aft_dict (suf : List UInt8) (r : List Entr) : Aft (textD true r ++ (62 :: 62 :: suf)) := by
  cases r with
  | nil => rw [textD_nil]; exact aft_fin suf
  | cons e r =>
    rw [textD_blank, if_pos rfl]
    have := aft_name e.1.data.toList (e.2.text ++ (textD true r ++ (62 :: 62 :: suf)))
    simpa using this
theorem upE_list (dep : Nat) : ∀ (xs : List Entr) (b : Bool) (pre suf : List UInt8) (acc : List Entr) (F : Nat), (∀ e ∈ xs, RdC e.2 dep ∧ own e.2 dep = 0 ∧ e.2.k ≠ 8) → acc.length + xs.length ≤ 1024 → (textD b xs).length + 2 ≤ F →
    upE F (pre ++ (textD b xs ++ (62 :: 62 :: suf))) dep acc pre.length = (0, acc ++ xs.map (fun e => (e.1, e.2.norm)), pre.length + (textD b xs).length + 2)
  | [], b, pre, suf, acc, F, _, _, hF => by
    obtain ⟨G, rfl⟩ : ∃ G, F = G + 1 := ⟨F - 1, by omega⟩
    rw [textD_nil, List.nil_append]
    have h := isTok_app pre (62 :: 62 :: suf) (next_fin suf)
    rw [upE_end G dep acc h]; simp
  | x :: r, b, pre, suf, acc, F, hx, hl, hF => by
    obtain ⟨hr, hy, h8⟩ := hx x List.mem_cons_self
    have hlen := text_ne x.2 dep hy h8
    rw [textD_blank] at hF ⊢
    have ha : Aft (textD true r ++ (62 :: 62 :: suf)) := aft_dict suf r
    obtain ⟨B, hB⟩ : ∃ B : List UInt8, B = if b then [32] else [] := ⟨_, rfl⟩
    obtain ⟨K, hK⟩ : ∃ K : List UInt8, K = nameV x.1.data.toList := ⟨_, rfl⟩
    have hK1 : 1 ≤ K.length := by rw [hK]; simp [nameV]
    rw [← hB, ← hK] at hF ⊢
    simp only [List.length_append, List.length_cons] at hF
    obtain ⟨G, rfl⟩ : ∃ G, F = G + 2 := ⟨F - 2, by omega⟩
    obtain ⟨L, hL⟩ : ∃ L, L = pre ++ (B ++ (K ++ (32 :: (x.2.text ++ textD true r))) ++ (62 :: 62 :: suf)) := ⟨_, rfl⟩
    have e1 : L = (pre ++ B) ++ (K ++ (32 :: (x.2.text ++ (textD true r ++ (62 :: 62 :: suf))))) := by rw [hL]; simp
    have e2 : L = (pre ++ B ++ K) ++ (32 :: (x.2.text ++ (textD true r ++ (62 :: 62 :: suf)))) := by rw [hL]; simp
    have e3 : L = (pre ++ B ++ K ++ [32]) ++ (x.2.text ++ (textD true r ++ (62 :: 62 :: suf))) := by rw [hL]; simp
    have e4 : L = (pre ++ B ++ K ++ [32] ++ x.2.text) ++ (textD true r ++ (62 :: 62 :: suf)) := by rw [hL]; simp
    have hnx : nextV L (pre.length : Int) = nextV L ((pre ++ B).length : Int) := by
      cases b with
      | false => simp only [Bool.false_eq_true, if_false] at hB; subst hB; simp
      | true =>
        simp only [if_true] at hB; subst hB
        have := next_white pre (K ++ (32 :: (x.2.text ++ (textD true r ++ (62 :: 62 :: suf)))))
        rw [show L = pre ++ 32 :: (K ++ (32 :: (x.2.text ++ (textD true r ++ (62 :: 62 :: suf))))) by rw [hL]; simp, this]; simp
    have htk : IsTok L (pre ++ B).length 2 0 x.1.data.toList false ((pre ++ B).length + K.length) := by
      have h := Lx.next_name x.1.data.toList (32 :: (x.2.text ++ (textD true r ++ (62 :: 62 :: suf)))) (.inr ⟨32, _, rfl, rfl⟩)
      rw [← hK] at h
      rw [e1]
      exact isTok_app (pre ++ B) _ h
    have htk2 : IsTok L pre.length 2 0 x.1.data.toList false ((pre ++ B).length + K.length) := by unfold IsTok at htk ⊢; rw [hnx]; exact htk
    have hw : nextV L (((pre ++ B).length + K.length : Nat) : Int) = nextV L ((pre ++ B ++ K ++ [32]).length : Int) := by
      have := next_white (pre ++ B ++ K) (x.2.text ++ (textD true r ++ (62 :: 62 :: suf)))
      rw [← e2] at this
      have hq : (pre ++ B).length + K.length = (pre ++ B ++ K).length := by simp only [List.length_append]
      have hq2 : (pre ++ B ++ K ++ [(32 : UInt8)]).length = (pre ++ B ++ K).length + 1 := by simp only [List.length_append, List.length_cons, List.length_nil]
      rw [hq, this, hq2]
    obtain ⟨r0, r1, r2, r3⟩ := hr (pre ++ B ++ K ++ [32]) (textD true r ++ (62 :: 62 :: suf)) G ha (by omega)
    rw [← e3] at r0 r1 r2 r3
    rw [← hw] at r0 r1 r2 r3
    rw [← hL, upE_step G htk2 r0 (by simp only [List.length_cons] at hl; omega) r3]
    have ih := upE_list dep r true (pre ++ B ++ K ++ [32] ++ x.2.text) suf (acc ++ [(str x.1.data.toList, x.2.norm)]) (G + 1) (fun y hy => hx y (List.mem_cons_of_mem _ hy)) (by simp only [List.length_append, List.length_cons, List.length_nil] at hl ⊢; omega) (by omega)
    rw [← e4] at ih
    have hq3 : (pre ++ B ++ K ++ [(32 : UInt8)] ++ x.2.text).length = (pre ++ B ++ K ++ [(32 : UInt8)]).length + x.2.text.length := List.length_append
    rw [hq3] at ih
    rw [ih, str_list]
    simp
    omega

/-! ### entries that are settled already -/
theorem setGo_new (key : ByteArray) (v : Ob) : ∀ (d : List Entr), hasK d key = false → setGo key v false d = d ++ [(key, v)]
  | [], _ => by rw [setGo]; rfl
  | e :: r, h => by
    rw [hasK, Bool.or_eq_false_iff] at h
    rw [setGo, if_neg (by rw [h.1]; simp), setGo_new key v r h.2]; rfl
theorem settle_from : ∀ (d seen : List Entr), senseD seen d = true → d.foldl (fun a e => setD a e.1 e.2) seen = seen ++ d
  | [], seen, _ => by simp
  | e :: r, seen, h => by
    rw [senseD] at h
    by_cases c : (hasK seen e.1 || e.2.k == 0) = true
    · rw [if_pos c] at h; cases h
    · rw [if_neg c] at h
      simp only [Bool.or_eq_true, not_or, Bool.not_eq_true] at c
      have hk : (e.2.k == 0) = false := c.2
      rw [List.foldl_cons, show setD seen e.1 e.2 = seen ++ [e] by unfold setD; rw [hk]; exact setGo_new e.1 e.2 seen c.1, settle_from r _ h]; simp
theorem settle_same {d : List Entr} (h : senseD [] d = true) : settle d = d := by
  unfold settle; rw [settle_from d [] h]; rfl
theorem hasK_norm (key : ByteArray) : ∀ d : List Entr, hasK (d.map (fun e => (e.1, e.2.norm))) key = hasK d key
  | [] => rfl
  | e :: r => by rw [List.map_cons, hasK, hasK, hasK_norm key r]
theorem senseD_norm : ∀ (d seen : List Entr), senseD (seen.map (fun e => (e.1, e.2.norm))) (d.map (fun e => (e.1, e.2.norm))) = senseD seen d
  | [], seen => by rw [List.map_nil, senseD, senseD]
  | e :: r, seen => by
    rw [List.map_cons, senseD, senseD, hasK_norm, norm_k]
    have := senseD_norm r (seen ++ [e])
    rw [List.map_append, List.map_cons, List.map_nil] at this
    rw [this]

/-! ### any object -/
theorem saneL_all : ∀ (l : List Ob) (dep : Nat), saneL l dep = 0 → ∀ x ∈ l, x.sane dep = 0
  | [], _, _, _, hx => by cases hx
  | y :: r, dep, h, x, hx => by
    rw [saneL_cons] at h
    by_cases c : y.sane dep ≠ 0
    · rw [if_pos c] at h; exact absurd h c
    · rw [if_neg c] at h
      rcases List.mem_cons.1 hx with rfl | hx
      · simpa using c
      · exact saneL_all r dep h x hx
theorem saneE_all : ∀ (l : List Entr) (dep : Nat), saneE l dep = 0 → ∀ x ∈ l, x.2.sane dep = 0
  | [], _, _, _, hx => by cases hx
  | y :: r, dep, h, x, hx => by
    rw [saneE_cons] at h
    by_cases c : y.2.sane dep ≠ 0
    · rw [if_pos c] at h; exact absurd h c
    · rw [if_neg c] at h
      rcases List.mem_cons.1 hx with rfl | hx
      · simpa using c
      · exact saneE_all r dep h x hx
theorem sane_own {o : Ob} {dep : Nat} (h : o.sane dep = 0) : own o dep = 0 := by
  rw [sane_eq] at h
  by_cases c : own o dep ≠ 0
  · rw [if_pos c] at h; exact h
  · simpa using c
/-- Deeper down there is no Stream. -/
theorem sane_no8 {o : Ob} {dep : Nat} (h : o.sane (dep + 1) = 0) : o.k ≠ 8 := by
  obtain ⟨k, n, f, s, l, d⟩ := o
  cases fact_of (sane_own h) with
  | stream _ _ _ hd => omega
  | flat h => simp only [Ob.k]; omega
  | bool h => simp only [Ob.k]; omega
  | num h => simp only [Ob.k]; omega
  | arr h => simp only [Ob.k]; omega
  | ref h => simp only [Ob.k]; omega
  | dict h => simp only [Ob.k]; omega
theorem rd_all (N : Nat) : ∀ (o : Ob), SizeOf.sizeOf o ≤ N → ∀ dep, o.sane dep = 0 → o.k ≠ 8 → RdC o dep := by
  induction N with
  | zero => intro o ho; exfalso; cases o; simp only [Ob.mk.sizeOf_spec] at ho; omega
  | succ N ih =>
    intro o ho dep hs h8
    have hown := sane_own hs
    have hl := fun x (hx : x ∈ o.l) => sizeOf_l hx
    have hd := fun e (he : e ∈ o.d) => sizeOf_d he
    obtain ⟨k, n, f, s, l, d⟩ := o
    have hse := sane_mk k n f s l d dep
    rw [if_neg (by rw [hown]; decide), hs] at hse
    simp only [Ob.k, Ob.l, Ob.d] at hl hd h8
    cases fact_of hown with
    | flat h =>
      rcases h with rfl | rfl | rfl
      · exact rd_null n f s l d dep
      · exact rd_name n f s l d dep
      · exact rd_str n f s l d dep
    | bool h hn => subst h; exact rd_bool n f s l d dep hn
    | num h hf hn => subst h; exact rd_num n f s l d dep hf hn
    | ref h h0 h1 f0 hf hw => subst h; exact rd_ref n f s l d dep h0 h1 f0 hf hw
    | stream h => exact absurd h h8
    | arr h hln hdp =>
      subst h
      rw [if_pos rfl] at hse
      have hx : ∀ x ∈ l, RdC x (dep + 1) ∧ own x (dep + 1) = 0 ∧ x.k ≠ 8 := fun x hx => by
        have h1 := saneL_all l _ hse.symm x hx
        exact ⟨ih x (by have := hl x hx; omega) _ h1 (sane_no8 h1), sane_own h1, sane_no8 h1⟩
      intro pre suf F ha hF
      rw [text5] at hF ⊢
      have e0 : pre ++ (91 :: (textL false l ++ [93]) ++ suf) = pre ++ (91 :: (textL false l ++ (93 :: suf))) := by simp
      have e1 : pre ++ (91 :: (textL false l ++ (93 :: suf))) = (pre ++ [91]) ++ (textL false l ++ (93 :: suf)) := by simp
      rw [e0]
      obtain ⟨c0, c1, c2, c3, c4, c5⟩ := isTok_app pre (91 :: (textL false l ++ (93 :: suf))) (next_arr _)
      refine ⟨c0, by rw [c1]; decide, by rw [c1]; decide, ?_⟩
      simp only [List.length_cons, List.length_append, List.length_nil] at hF
      obtain ⟨G, rfl⟩ : ∃ G, F = G + 1 := ⟨F - 1, by omega⟩
      have hu := upO_list (dep + 1) l false (pre ++ [91]) suf [] G hx (by simpa using hln) (by omega)
      have hq : (pre ++ [(91 : UInt8)]).length = pre.length + 1 := by simp only [List.length_append, List.length_cons, List.length_nil]
      rw [← e1, List.nil_append, hq] at hu
      rw [obj_arr _ _ _ _ c1, if_neg (by omega), c5, hu, if_pos rfl, norm_mk, normL_map]
      simp
      omega
    | dict h hsd hln hdp =>
      subst h
      rw [if_neg (by decide), if_pos (.inl rfl)] at hse
      have hx : ∀ x ∈ d, RdC x.2 (dep + 1) ∧ own x.2 (dep + 1) = 0 ∧ x.2.k ≠ 8 := fun x hx => by
        have h1 := saneE_all d _ hse.symm x hx
        exact ⟨ih x.2 (by have := hd x hx; omega) _ h1 (sane_no8 h1), sane_own h1, sane_no8 h1⟩
      intro pre suf F ha hF
      rw [text6] at hF ⊢
      have e0 : pre ++ ([60, 60] ++ textD false d ++ [62, 62] ++ suf) = pre ++ (60 :: 60 :: (textD false d ++ (62 :: 62 :: suf))) := by simp
      have e1 : pre ++ (60 :: 60 :: (textD false d ++ (62 :: 62 :: suf))) = (pre ++ [60, 60]) ++ (textD false d ++ (62 :: 62 :: suf)) := by simp
      rw [e0]
      obtain ⟨c0, c1, c2, c3, c4, c5⟩ := isTok_app pre (60 :: 60 :: (textD false d ++ (62 :: 62 :: suf))) (next_dict _)
      refine ⟨c0, by rw [c1]; decide, by rw [c1]; decide, ?_⟩
      simp only [List.length_cons, List.length_append, List.length_nil] at hF
      obtain ⟨G, rfl⟩ : ∃ G, F = G + 1 := ⟨F - 1, by omega⟩
      have hu := upE_list (dep + 1) d false (pre ++ [60, 60]) suf [] G hx (by simpa using hln) (by omega)
      have hq : (pre ++ [(60 : UInt8), 60]).length = pre.length + 2 := by simp only [List.length_append, List.length_cons, List.length_nil]
      rw [← e1, List.nil_append, hq] at hu
      have hst : settle (d.map (fun e => (e.1, e.2.norm))) = d.map (fun e => (e.1, e.2.norm)) := settle_same (by
        have := senseD_norm d []
        rw [List.map_nil] at this
        rw [this]; exact hsd)
      rw [obj_dict _ _ _ _ c1, if_neg (by omega), c5, hu, if_pos rfl, hst, norm_mk, normD_map]
      simp
      omega
/-- What is written is read, behind anything, ahead of what may follow. -/
theorem parse_back {o : Ob} (hs : o.sane 0 = 0) (h8 : o.k ≠ 8) (pre suf : List UInt8) (ha : Aft suf) : parse (pre ++ (o.text ++ suf)) pre.length = (0, o.norm, pre.length + o.text.length) := by
  have hlen := text_ne o 0 (sane_own hs) h8
  obtain ⟨r0, r1, r2, r3⟩ := rd_all _ o (Nat.le_refl _) 0 hs h8 pre suf (3 * (pre ++ (o.text ++ suf)).length + 2) ha (by simp only [List.length_append]; omega)
  unfold parse
  rw [if_neg (by rw [r0]; decide), r3]

end Go.Proofs.YtbgdeaeikijdgaaGreatDoor.Cx

namespace Go.Proofs.YtbgdeaeikijdgaaGreatDoor.Cx
open Lx
set_option linter.unusedSimpArgs false
set_option linter.unusedVariables false

/-- An object that is no Num and no Ref is read, whatever stands behind it, but a byte of a word. -/
def RdL (o : Ob) (dep : Nat) : Prop := ∀ (pre suf : List UInt8) (F : Nat), tw reg suf = 0 → o.text.length + 1 ≤ F →
  (nextV (pre ++ (o.text ++ suf)) pre.length).1 = 0 ∧ (nextV (pre ++ (o.text ++ suf)) pre.length).2.kind ≠ 0 ∧ (nextV (pre ++ (o.text ++ suf)) pre.length).2.kind ≠ 5 ∧
    objOf F (pre ++ (o.text ++ suf)) dep (nextV (pre ++ (o.text ++ suf)) pre.length).2 = (0, o.norm, pre.length + o.text.length)

theorem rl_word {o x : Ob} {dep : Nat} {t : List UInt8} (ht : o.text = t) (hx : o.norm = x) (hn : t ≠ []) (hb : ∀ b ∈ t, reg b = true) (h0 : numB (t.headD 0) = false) (hw : Cx.wordV t = (0, x)) : RdL o dep := by
  intro pre suf F ha hF
  rw [ht] at hF ⊢
  obtain ⟨c0, c1, c2, c3, c4, c5⟩ := isTok_in pre (next_word hn hb h0 ha)
  refine ⟨c0, by rw [c1]; decide, by rw [c1]; decide, ?_⟩
  obtain ⟨G, rfl⟩ : ∃ G, F = G + 1 := ⟨F - 1, by omega⟩
  rw [objOf]
  simp only [c1, c3, c5, hw, hx, if_true, if_false, show ¬ ((8 : Int) = 0) by decide, show ¬ ((8 : Int) = 1) by decide, show ¬ ((8 : Int) = 2) by decide, show ¬ ((8 : Int) = 3) by decide]
theorem rl_null (n f : Int) (s : ByteArray) (l : List Ob) (d : List Entr) (dep : Nat) : RdL (.mk 0 n f s l d) dep :=
  rl_word (t := nullT) (x := nul) (by rw [text_mk]; rfl) (by rw [norm_mk]; rfl) (by decide) (by decide) (by decide) rfl
theorem rl_bool (n f : Int) (s : ByteArray) (l : List Ob) (d : List Entr) (dep : Nat) (hn : n = 0 ∨ n = 1) : RdL (.mk 1 n f s l d) dep := by
  rcases hn with rfl | rfl
  · exact rl_word (t := falseT) (x := .mk 1 0 0 ⟨#[]⟩ [] []) (by rw [text_mk]; rfl) (by rw [norm_mk]; rfl) (by decide) (by decide) (by decide) rfl
  · exact rl_word (t := trueT) (x := .mk 1 1 0 ⟨#[]⟩ [] []) (by rw [text_mk]; rfl) (by rw [norm_mk]; rfl) (by decide) (by decide) (by decide) rfl
theorem rl_name (n f : Int) (s : ByteArray) (l : List Ob) (d : List Entr) (dep : Nat) : RdL (.mk 3 n f s l d) dep := by
  intro pre suf F ha hF
  have ht : (Ob.mk 3 n f s l d).text = nameV s.data.toList := by rw [text_mk]; rfl
  rw [ht] at hF ⊢
  obtain ⟨c0, c1, c2, c3, c4, c5⟩ := isTok_in pre (Lx.next_name s.data.toList suf (aft_more ha))
  refine ⟨c0, by rw [c1]; decide, by rw [c1]; decide, ?_⟩
  obtain ⟨G, rfl⟩ : ∃ G, F = G + 1 := ⟨F - 1, by omega⟩
  rw [objOf]
  simp only [c1, c3, c5, norm_mk, str_list, if_true, if_false, show ¬ ((2 : Int) = 0) by decide, show ¬ ((2 : Int) = 1) by decide]
  simp
theorem rl_str (n f : Int) (s : ByteArray) (l : List Ob) (d : List Entr) (dep : Nat) : RdL (.mk 4 n f s l d) dep := by
  intro pre suf F ha hF
  have ht : (Ob.mk 4 n f s l d).text = quoteV s.data.toList := by rw [text_mk]; rfl
  rw [ht] at hF ⊢
  obtain ⟨c0, c1, c2, c3, c4, c5⟩ := isTok_in pre (next_quote s.data.toList suf)
  refine ⟨c0, by rw [c1]; decide, by rw [c1]; decide, ?_⟩
  obtain ⟨G, rfl⟩ : ∃ G, F = G + 1 := ⟨F - 1, by omega⟩
  rw [objOf]
  simp only [c1, c3, c5, norm_mk, str_list, if_true, if_false, show ¬ ((3 : Int) = 0) by decide, show ¬ ((3 : Int) = 1) by decide, show ¬ ((3 : Int) = 2) by decide]
  simp

theorem rl_all (o : Ob) (dep : Nat) (hs : o.sane dep = 0) (h8 : o.k ≠ 8) (h2 : o.k ≠ 2) (h7 : o.k ≠ 7) : RdL o dep := by
    have hown := sane_own hs
    obtain ⟨k, n, f, s, l, d⟩ := o
    have hse := sane_mk k n f s l d dep
    rw [if_neg (by rw [hown]; decide), hs] at hse
    simp only [Ob.k, Ob.l, Ob.d] at h8 h2 h7
    cases fact_of hown with
    | flat h =>
      rcases h with rfl | rfl | rfl
      · exact rl_null n f s l d dep
      · exact rl_name n f s l d dep
      · exact rl_str n f s l d dep
    | bool h hn => subst h; exact rl_bool n f s l d dep hn
    | num h hf hn => exact absurd h h2
    | ref h h0 h1 f0 hf hw => exact absurd h h7
    | stream h => exact absurd h h8
    | arr h hln hdp =>
      subst h
      rw [if_pos rfl] at hse
      have hx : ∀ x ∈ l, RdC x (dep + 1) ∧ own x (dep + 1) = 0 ∧ x.k ≠ 8 := fun x hx => by
        have h1 := saneL_all l _ hse.symm x hx
        exact ⟨rd_all _ x (Nat.le_refl _) _ h1 (sane_no8 h1), sane_own h1, sane_no8 h1⟩
      intro pre suf F ha hF
      rw [text5] at hF ⊢
      have e0 : pre ++ (91 :: (textL false l ++ [93]) ++ suf) = pre ++ (91 :: (textL false l ++ (93 :: suf))) := by simp
      have e1 : pre ++ (91 :: (textL false l ++ (93 :: suf))) = (pre ++ [91]) ++ (textL false l ++ (93 :: suf)) := by simp
      rw [e0]
      obtain ⟨c0, c1, c2, c3, c4, c5⟩ := isTok_app pre (91 :: (textL false l ++ (93 :: suf))) (next_arr _)
      refine ⟨c0, by rw [c1]; decide, by rw [c1]; decide, ?_⟩
      simp only [List.length_cons, List.length_append, List.length_nil] at hF
      obtain ⟨G, rfl⟩ : ∃ G, F = G + 1 := ⟨F - 1, by omega⟩
      have hu := upO_list (dep + 1) l false (pre ++ [91]) suf [] G hx (by simpa using hln) (by omega)
      have hq : (pre ++ [(91 : UInt8)]).length = pre.length + 1 := by simp only [List.length_append, List.length_cons, List.length_nil]
      rw [← e1, List.nil_append, hq] at hu
      rw [obj_arr _ _ _ _ c1, if_neg (by omega), c5, hu, if_pos rfl, norm_mk, normL_map]
      simp
      omega
    | dict h hsd hln hdp =>
      subst h
      rw [if_neg (by decide), if_pos (.inl rfl)] at hse
      have hx : ∀ x ∈ d, RdC x.2 (dep + 1) ∧ own x.2 (dep + 1) = 0 ∧ x.2.k ≠ 8 := fun x hx => by
        have h1 := saneE_all d _ hse.symm x hx
        exact ⟨rd_all _ x.2 (Nat.le_refl _) _ h1 (sane_no8 h1), sane_own h1, sane_no8 h1⟩
      intro pre suf F ha hF
      rw [text6] at hF ⊢
      have e0 : pre ++ ([60, 60] ++ textD false d ++ [62, 62] ++ suf) = pre ++ (60 :: 60 :: (textD false d ++ (62 :: 62 :: suf))) := by simp
      have e1 : pre ++ (60 :: 60 :: (textD false d ++ (62 :: 62 :: suf))) = (pre ++ [60, 60]) ++ (textD false d ++ (62 :: 62 :: suf)) := by simp
      rw [e0]
      obtain ⟨c0, c1, c2, c3, c4, c5⟩ := isTok_app pre (60 :: 60 :: (textD false d ++ (62 :: 62 :: suf))) (next_dict _)
      refine ⟨c0, by rw [c1]; decide, by rw [c1]; decide, ?_⟩
      simp only [List.length_cons, List.length_append, List.length_nil] at hF
      obtain ⟨G, rfl⟩ : ∃ G, F = G + 1 := ⟨F - 1, by omega⟩
      have hu := upE_list (dep + 1) d false (pre ++ [60, 60]) suf [] G hx (by simpa using hln) (by omega)
      have hq : (pre ++ [(60 : UInt8), 60]).length = pre.length + 2 := by simp only [List.length_append, List.length_cons, List.length_nil]
      rw [← e1, List.nil_append, hq] at hu
      have hst : settle (d.map (fun e => (e.1, e.2.norm))) = d.map (fun e => (e.1, e.2.norm)) := settle_same (by
        have := senseD_norm d []
        rw [List.map_nil] at this
        rw [this]; exact hsd)
      rw [obj_dict _ _ _ _ c1, if_neg (by omega), c5, hu, if_pos rfl, hst, norm_mk, normD_map]
      simp
      omega

theorem parse_loose {o : Ob} (hs : o.sane 0 = 0) (h8 : o.k ≠ 8) (h2 : o.k ≠ 2) (h7 : o.k ≠ 7) (pre suf : List UInt8) (ha : tw reg suf = 0) : parse (pre ++ (o.text ++ suf)) pre.length = (0, o.norm, pre.length + o.text.length) := by
  have hlen := text_ne o 0 (sane_own hs) h8
  obtain ⟨r0, r1, r2, r3⟩ := rl_all o 0 hs h8 h2 h7 pre suf (3 * (pre ++ (o.text ++ suf)).length + 2) ha (by simp only [List.length_append]; omega)
  unfold parse
  rw [if_neg (by rw [r0]; decide), r3]

/-- The first token of an object that may be. -/
theorem tok_first {o : Ob} (hs : o.sane 0 = 0) (h8 : o.k ≠ 8) (h7 : o.k ≠ 7) (suf : List UInt8) (ha : tw reg suf = 0) :
    ∃ T, nextV (o.text ++ suf) 0 = (0, T) ∧ T.frm = 0 ∧ T.kind ≠ 0 ∧ isOp T = false ∧ (o.k = 2 → T.kind = 1 ∧ T.to = o.text.length) ∧ (o.k ≠ 2 → T.kind ≠ 1) := by
  have hown := sane_own hs
  obtain ⟨k, n, f, s, l, d⟩ := o
  simp only [Ob.k] at h8 h7 ⊢
  have word : ∀ t : List UInt8, (Ob.mk k n f s l d).text = t → t ≠ [] → (∀ b ∈ t, reg b = true) → numB (t.headD 0) = false → (t == trueT || t == falseT || t == nullT) = true → k ≠ 2 →
      ∃ T, nextV ((Ob.mk k n f s l d).text ++ suf) 0 = (0, T) ∧ T.frm = 0 ∧ T.kind ≠ 0 ∧ isOp T = false ∧ (k = 2 → T.kind = 1 ∧ T.to = (Ob.mk k n f s l d).text.length) ∧ (k ≠ 2 → T.kind ≠ 1) := fun t e h1 h2 h3 h4 h5 => by
    rw [e]
    refine ⟨_, next_word h1 h2 h3 ha, rfl, by simp, ?_, fun h => absurd h h5, fun _ => by simp⟩
    unfold isOp
    simp only [] at h4 ⊢
    rw [h4]; rfl
  have op : ∀ (T : Tok), T.kind ≠ 8 → isOp T = false := fun T h => by unfold isOp; rw [show (T.kind == 8) = false by simpa using h]; rfl
  cases fact_of hown with
  | flat h =>
    rcases h with rfl | rfl | rfl
    · exact word nullT (by rw [text_mk]; rfl) (by decide) (by decide) (by decide) (by decide) (by decide)
    · have e : (Ob.mk 3 n f s l d).text = nameV s.data.toList := by rw [text_mk]; rfl
      rw [e]
      exact ⟨_, Lx.next_name s.data.toList suf (aft_more ha), rfl, by simp, op _ (by simp), fun h => absurd h (by decide), fun _ => by simp⟩
    · have e : (Ob.mk 4 n f s l d).text = quoteV s.data.toList := by rw [text_mk]; rfl
      rw [e]
      exact ⟨_, next_quote s.data.toList suf, rfl, by simp, op _ (by simp), fun h => absurd h (by decide), fun _ => by simp⟩
  | bool h hn =>
    subst h
    rcases hn with rfl | rfl
    · exact word falseT (by rw [text_mk]; rfl) (by decide) (by decide) (by decide) (by decide) (by decide)
    · exact word trueT (by rw [text_mk]; rfl) (by decide) (by decide) (by decide) (by decide) (by decide)
  | num h hf hn =>
    subst h
    have e : (Ob.mk 2 n f s l d).text = numT n f := by rw [text_mk]; rfl
    rw [e]
    exact ⟨_, next_numT hf hn ha, rfl, by simp, op _ (by simp), fun _ => ⟨rfl, rfl⟩, fun h => absurd rfl h⟩
  | arr h hl hd =>
    subst h
    rw [text5, List.cons_append]
    exact ⟨_, next_arr _, rfl, by simp, op _ (by simp), fun h => absurd h (by decide), fun _ => by simp⟩
  | ref h => exact absurd h h7
  | dict h =>
    subst h
    rw [text6]
    have e : ([60, 60] ++ textD false d ++ [62, 62] ++ suf : List UInt8) = 60 :: 60 :: (textD false d ++ [62, 62] ++ suf) := by simp
    rw [e]
    exact ⟨_, next_dict _, rfl, by simp, op _ (by simp), fun h => absurd h (by decide), fun _ => by simp⟩
  | stream h => exact absurd h h8

/-- An object among operands is read. -/
theorem object_back {o : Ob} (hs : o.sane 0 = 0) (h8 : o.k ≠ 8) (h7 : o.k ≠ 7) (pre suf : List UInt8) (ha : tw reg suf = 0) :
    (nextV (pre ++ (o.text ++ suf)) pre.length).1 = 0 ∧ (nextV (pre ++ (o.text ++ suf)) pre.length).2.kind ≠ 0 ∧ isOp (nextV (pre ++ (o.text ++ suf)) pre.length).2 = false ∧
      objectV (pre ++ (o.text ++ suf)) (nextV (pre ++ (o.text ++ suf)) pre.length).2 = (0, o.norm, pre.length + o.text.length) := by
  obtain ⟨T, h0, h1, h2, h3, h4, h5⟩ := tok_first hs h8 h7 suf ha
  have hn := next_app pre (o.text ++ suf)
  rw [h0, if_pos rfl] at hn
  rw [hn]
  refine ⟨rfl, h2, h3, ?_⟩
  unfold objectV
  by_cases hk : o.k = 2
  · obtain ⟨k1, k2⟩ := h4 hk
    rw [if_pos k1]
    simp only [h1, k2, Nat.zero_add]
    have e : (pre ++ (o.text ++ suf)).take (o.text.length + pre.length) = pre ++ (o.text ++ []) := by
      rw [List.append_nil, ← List.append_assoc, List.take_append_of_le_length (by rw [List.length_append]; omega), List.take_of_length_le (by rw [List.length_append]; omega)]
    rw [e]
    exact parse_back hs h8 pre [] aft_nil
  · rw [if_neg (h5 hk)]
    simp only [h1, Nat.zero_add]
    exact parse_loose hs h8 hk h7 pre suf ha

/-- White ahead of a token. -/
theorem next_any_white (a r : List UInt8) (b : UInt8) (hb : white b = true) : nextV (a ++ b :: r) (a.length : Int) = nextV (a ++ b :: r) ((a.length + 1 : Nat) : Int) := by
  have hs : spaceV (a ++ b :: r) (a.length : Int) = spaceV (a ++ b :: r) ((a.length + 1 : Nat) : Int) := by
    unfold spaceV
    have h0 : (min (max (a.length : Int) 0) ((a ++ b :: r).length : Int)).toNat = a.length := by rw [List.length_append]; omega
    have h1 : (min (max ((a.length + 1 : Nat) : Int) 0) ((a ++ b :: r).length : Int)).toNat = a.length + 1 := by rw [List.length_append, List.length_cons]; omega
    rw [h0, h1, List.drop_left, ← List.drop_drop, List.drop_left, List.drop_succ_cons, List.drop_zero, spc, if_pos hb]; omega
  have hc : (0 : Int) ≤ (a.length : Int) ∧ (a.length : Int) ≤ ((a ++ b :: r).length : Int) := ⟨by omega, by rw [List.length_append]; omega⟩
  have hc' : (0 : Int) ≤ ((a.length + 1 : Nat) : Int) ∧ ((a.length + 1 : Nat) : Int) ≤ ((a ++ b :: r).length : Int) := ⟨by omega, by rw [List.length_append, List.length_cons]; omega⟩
  unfold nextV
  rw [if_pos hc, if_pos hc', hs]
/-- Nothing, or one white byte. -/
def Ws1 (ws : List UInt8) : Prop := ws = [] ∨ ∃ b, ws = [b] ∧ white b = true
theorem next_ws {pre ws r : List UInt8} (h : Ws1 ws) : nextV (pre ++ (ws ++ r)) (pre.length : Int) = nextV ((pre ++ ws) ++ r) ((pre ++ ws).length : Int) := by
  rcases h with rfl | ⟨b, rfl, hb⟩
  · rw [List.nil_append, List.append_nil]
  · rw [List.append_assoc, List.singleton_append, next_any_white _ _ _ hb, List.length_append, List.length_singleton]

theorem named_facts {nm : List UInt8} (h : named nm = true) : nm ≠ [] ∧ (∀ b ∈ nm, reg b = true) ∧ numB (nm.headD 0) = false ∧ nm ≠ [66, 73] ∧ (nm == trueT || nm == falseT || nm == nullT) = false := by
  unfold named at h
  simp only [Bool.and_eq_true, beq_iff_eq, Bool.not_eq_true'] at h
  obtain ⟨⟨⟨h0, h1⟩, h2⟩, h3⟩ := h
  unfold isOp at h1
  simp only [Bool.and_eq_true, beq_iff_eq, Bool.not_eq_true'] at h1
  obtain ⟨h1, h4⟩ := h1
  rw [h2] at h4
  have h5 : nm ≠ [66, 73] := by simpa using h3
  rw [next_zero] at h0 h1 h2
  obtain ⟨K, hK⟩ : ∃ K, K = spc false nm := ⟨_, rfl⟩
  rw [← hK] at h0 h1 h2
  by_cases hz : (tokV nm K).1 = 0
  · rw [if_pos hz] at h1 h2
    simp only [] at h1 h2
    have rk : ∀ (kind : Int) (x : R3), (ofR3 kind x).2.kind = kind ∨ (ofR3 kind x).2.kind = 0 := fun kind x => by
      unfold ofR3; split
      · exact .inl rfl
      · exact .inr rfl
    unfold tokV at h1 h2
    cases hd : nm.drop K with
    | nil => rw [hd] at h1; exact absurd h1 (by simp [zero])
    | cons b r =>
      rw [hd] at h1 h2
      simp only [] at h1 h2
      have key : (Lx.wordV nm K).2.kind = 8 ∧ (Lx.wordV nm K).2.s = nm := by
        split at h1
        · exact absurd h1 (by simp [zero])
        · split at h1
          · exact absurd h1 (by simp [zero])
          · split at h1
            · split at h1
              · exact absurd h1 (by simp [zero])
              · rcases rk 3 (hexGo [] none r (K + 1)) with e | e <;> rw [e] at h1 <;> exact absurd h1 (by simp [zero])
            · split at h1
              · split at h1
                · exact absurd h1 (by simp [zero])
                · exact absurd h1 (by simp [zero])
              · split at h1
                · rcases rk 2 (nameGo [] 0 r (K + 1)) with e | e <;> rw [e] at h1 <;> exact absurd h1 (by simp [zero])
                · split at h1
                  · rcases rk 3 (textGo [] 0 0 r (K + 1)) with e | e <;> rw [e] at h1 <;> exact absurd h1 (by simp [zero])
                  · split at h1
                    · exact absurd h1 (by simp [zero])
                    · rename_i a1 a2 a3 a4 a5 a6 a7
                      rw [if_neg a1, if_neg a2, if_neg a3, if_neg a4, if_neg a5, if_neg a6, if_neg a7] at h2
                      exact ⟨h1, h2⟩
      obtain ⟨q1, q2⟩ := key
      unfold Lx.wordV at q1 q2
      by_cases hnb : numB ((nm.drop K).headD 0) = true
      · rw [if_pos hnb] at q1
        split at q1
        · exact absurd q1 (by first | (simp; done) | (unfold zero; simp))
        · exact absurd q1 (by first | (simp; done) | (unfold zero; simp))
      · rw [if_neg hnb] at q2
        simp only [] at q2
        have hl := congrArg List.length q2
        rw [List.length_take, List.length_drop] at hl
        have hne : nm ≠ [] := by intro e; rw [e] at hd; simp at hd
        have hpos : 0 < nm.length := List.length_pos_iff.2 hne
        have hK0 : K = 0 := by omega
        rw [hK0, List.drop_zero] at q2 hnb
        refine ⟨hne, ?_, by simpa using hnb, h5, h4⟩
        intro b hb
        rw [← q2] at hb
        exact tw_take reg nm b hb
  · rw [if_neg hz] at h0; exact absurd h0 hz

/-- An operator as a text, without the line's end. -/
def wordsT (xs : List Ob) (nm : List UInt8) : List UInt8 := Lib.join (xs.map Ob.text ++ [nm]) [32]
theorem wordsT_nil (nm : List UInt8) : wordsT [] nm = nm := by unfold wordsT; simp [Lib.join]
theorem wordsT_cons (x : Ob) (r : List Ob) (nm : List UInt8) : wordsT (x :: r) nm = x.text ++ (32 :: wordsT r nm) := by
  unfold wordsT
  rw [List.map_cons, List.cons_append]
  cases h : r.map Ob.text ++ [nm] with
  | nil => simp at h
  | cons y l => simp [Lib.join]

/-- May an object stand ahead of an operator? -/
def OkA (o : Ob) : Prop := o.sane 0 = 0 ∧ o.k ≠ 8 ∧ o.k ≠ 7
theorem oper_back {nm : List UInt8} (hn : named nm = true) : ∀ (xs : List Ob) (m : Nat) (acc : List Ob) (pre ws suf : List UInt8), (∀ x ∈ xs, OkA x) → Ws1 ws → tw reg suf = 0 →
    operGo (pre ++ (ws ++ (wordsT xs nm ++ suf))) m acc pre.length = if xs.length ≤ m then (0, opO (str nm) (acc ++ xs.map Ob.norm), pre.length + ws.length + (wordsT xs nm).length) else (6, nul, 0)
  | [], m, acc, pre, ws, suf, _, hw, hs => by
    obtain ⟨f1, f2, f3, f4, f5⟩ := named_facts hn
    rw [wordsT_nil, if_pos (show ([] : List Ob).length ≤ m from Nat.zero_le _)]
    have hx : nextV (pre ++ (ws ++ (nm ++ suf))) (pre.length : Int) = (0, ⟨8, 0, nm, false, (pre ++ ws).length, nm.length + (pre ++ ws).length⟩) := by
      rw [next_ws hw, next_app, next_word f1 f2 f3 hs, if_pos rfl]; simp
    have hop : isOp (⟨8, 0, nm, false, (pre ++ ws).length, nm.length + (pre ++ ws).length⟩ : Tok) = true := by
      unfold isOp; simp only [f5]; rfl
    have hst : ∀ rest, operStep (pre ++ (ws ++ (nm ++ suf))) acc (pre.length : Int) rest = (0, opO (str nm) (acc ++ [].map Ob.norm), pre.length + ws.length + nm.length) := fun rest => by
      unfold operStep
      rw [hx]
      rw [if_neg (by simp), if_neg (by simp), if_pos (.inr hop)]
      simp; omega
    cases m <;> exact hst _
  | x :: r, m, acc, pre, ws, suf, hx, hw, hs => by
    obtain ⟨x1, x2, x3⟩ := hx x List.mem_cons_self
    have e : pre ++ (ws ++ (wordsT (x :: r) nm ++ suf)) = (pre ++ ws) ++ (x.text ++ (32 :: (wordsT r nm ++ suf))) := by rw [wordsT_cons]; simp
    obtain ⟨o0, o1, o2, o3⟩ := object_back x1 x2 x3 (pre ++ ws) (32 :: (wordsT r nm ++ suf)) rfl
    have en : nextV (pre ++ (ws ++ (wordsT (x :: r) nm ++ suf))) (pre.length : Int) = nextV ((pre ++ ws) ++ (x.text ++ (32 :: (wordsT r nm ++ suf)))) ((pre ++ ws).length : Int) := by
      rw [next_ws hw, wordsT_cons]; simp
    have hst : ∀ rest, operStep (pre ++ (ws ++ (wordsT (x :: r) nm ++ suf))) acc (pre.length : Int) rest = rest := fun rest => by
      unfold operStep
      rw [en, if_neg (by rw [o0]; decide), if_neg (fun h => o1 h.1), if_neg (fun h => by rcases h with h | h; exact o1 h; rw [o2] at h; cases h)]
    cases m with
    | zero => rw [operGo, hst, if_neg (by simp)]
    | succ m =>
      have ih := oper_back hn r m (acc ++ [x.norm]) (pre ++ ws ++ x.text) [32] suf (fun y hy => hx y (List.mem_cons_of_mem _ hy)) (.inr ⟨32, rfl, rfl⟩) hs
      rw [operGo, hst, en]
      rw [show objectV (pre ++ (ws ++ (wordsT (x :: r) nm ++ suf))) = objectV ((pre ++ ws) ++ (x.text ++ (32 :: (wordsT r nm ++ suf)))) by rw [e], o3, if_neg (by simp)]
      have e2 : pre ++ (ws ++ (wordsT (x :: r) nm ++ suf)) = pre ++ ws ++ x.text ++ ([32] ++ (wordsT r nm ++ suf)) := by rw [wordsT_cons]; simp
      rw [e2]
      have e3 : (((pre ++ ws).length + x.text.length : Nat) : Int) = ((pre ++ ws ++ x.text).length : Int) := by rw [show (pre ++ ws ++ x.text).length = (pre ++ ws).length + x.text.length from List.length_append]
      simp only [e3]
      rw [ih]
      by_cases hm : r.length ≤ m
      · rw [if_pos hm, if_pos (by simpa using hm), wordsT_cons]
        simp; omega
      · rw [if_neg hm, if_neg (by simpa using hm)]

/-- May an operator be written? -/
def OkP (o : Ob) : Prop := o = opO o.s o.l ∧ named o.s.data.toList = true ∧ o.l.length ≤ 64 ∧ ∀ x ∈ o.l, OkA x
def normP (o : Ob) : Ob := opO o.s (o.l.map Ob.norm)
/-- One operator further. -/
theorem ops_one {o : Ob} (h : OkP o) (m : Nat) (acc : List Ob) (pre ws suf : List UInt8) (hw : Ws1 ws) (hs : tw reg suf = 0) :
    opsGo (pre ++ (ws ++ (wordsT o.l o.s.data.toList ++ suf))) (m + 1) acc pre.length = opsGo (pre ++ (ws ++ (wordsT o.l o.s.data.toList ++ suf))) m (acc ++ [normP o]) ((pre ++ (ws ++ wordsT o.l o.s.data.toList)).length : Nat) := by
  obtain ⟨h1, h2, h3, h4⟩ := h
  obtain ⟨f1, f2, f3, f4, f5⟩ := named_facts h2
  have hb := oper_back h2 o.l 64 [] pre ws suf h4 hw hs
  rw [if_pos h3, str_list, List.nil_append] at hb
  rw [opsGo]
  unfold opsStep
  rw [hb]
  simp only []
  rw [show (opO o.s (o.l.map Ob.norm)).s = o.s from rfl, if_neg (by decide), if_neg f1, if_neg f4]
  unfold normP
  congr 1
  simp only [List.length_append]; omega
/-- At the end. -/
theorem ops_end (m : Nat) (acc : List Ob) (pre ws : List UInt8) (hw : Ws1 ws) : opsGo (pre ++ ws) m acc pre.length = (0, acc) := by
  have hx : nextV (pre ++ ws) (pre.length : Int) = (0, ⟨0, 0, [], false, (pre ++ ws).length, (pre ++ ws).length⟩) := by
    have h1 := next_ws (pre := pre) (r := []) hw
    rw [List.append_nil, List.append_nil] at h1
    have h2 := next_app (pre ++ ws) []
    rw [List.append_nil, next_end, if_pos rfl] at h2
    rw [h1, h2]; simp
  have ho : operGo (pre ++ ws) 64 [] (pre.length : Int) = (0, opO (str []) [], (pre ++ ws).length) := by
    rw [operGo]
    unfold operStep
    rw [hx, if_neg (by simp), if_neg (fun h => h.2 rfl), if_pos (.inl rfl)]
  have hst : ∀ rest, opsStep (pre ++ ws) acc (pre.length : Int) rest = (0, acc) := fun rest => by
    unfold opsStep
    rw [ho, if_neg (by simp), if_pos (show ((0, opO (str []) [], (pre ++ ws).length) : Int × Ob × Nat).2.1.s.data.toList = [] from rfl)]
  cases m <;> exact hst _
/-- Operators' lines. -/
def linesW (os : List Ob) : List UInt8 := os.flatMap fun o => wordsT o.l o.s.data.toList ++ [10]
theorem ops_lines : ∀ (os : List Ob) (m : Nat) (acc : List Ob) (pre ws : List UInt8), (∀ o ∈ os, OkP o) → Ws1 ws → os.length ≤ m →
    opsGo (pre ++ (ws ++ linesW os)) m acc pre.length = (0, acc ++ os.map normP)
  | [], m, acc, pre, ws, _, hw, _ => by
    rw [show linesW [] = [] from rfl, List.append_nil, ops_end m acc pre ws hw]; simp
  | o :: r, m, acc, pre, ws, hx, hw, hm => by
    obtain ⟨m, rfl⟩ : ∃ q, m = q + 1 := ⟨m - 1, by simp at hm; omega⟩
    have e : linesW (o :: r) = wordsT o.l o.s.data.toList ++ (10 :: linesW r) := by unfold linesW; rw [List.flatMap_cons]; simp
    rw [e, ops_one (hx o List.mem_cons_self) m acc pre ws (10 :: linesW r) hw rfl]
    have ih := ops_lines r m (acc ++ [normP o]) (pre ++ (ws ++ wordsT o.l o.s.data.toList)) [10] (fun y hy => hx y (List.mem_cons_of_mem _ hy)) (.inr ⟨10, rfl, rfl⟩) (by simpa using hm)
    have e2 : pre ++ (ws ++ (wordsT o.l o.s.data.toList ++ (10 :: linesW r))) = pre ++ (ws ++ wordsT o.l o.s.data.toList) ++ ([10] ++ linesW r) := by simp
    rw [e2, ih]; simp

end Go.Proofs.YtbgdeaeikijdgaaGreatDoor.Cx

namespace Go.Proofs.YtbgdeaeikijdgaaGreatDoor.Px
open Cx

structure Mx where
  (a b c d e f : Int)
structure Cl where
  (r g b : Int)
structure St where
  (m : Mx) (c d : Cl) (w : Int) (font : ByteArray) (size lead : Int)
structure Pt where
  (op : ByteArray) (x y : Int)
structure It where
  (kind : Int) (m : Mx) (path : List Pt) (c d : Cl) (w : Int) (font : ByteArray) (size : Int) (s : ByteArray)
structure Pen where
  (st : St) (kept : List St) (path : List Pt) (t : Mx) (out : List It)

def unit : Mx := ⟨1000, 0, 0, 1000, 0, 0⟩
def Mx.mulE (m n : Mx) : Int := Gm.matE m.a m.b m.c m.d m.e m.f n.a n.b n.c n.d n.e n.f
def Mx.mul (m n : Mx) : Mx := ⟨Gm.twoV m.a n.a m.b n.c, Gm.twoV m.a n.b m.b n.d, Gm.twoV m.c n.a m.d n.c, Gm.twoV m.c n.b m.d n.d, Gm.plsV m.e n.a m.f n.c n.e, Gm.plsV m.e n.b m.f n.d n.f⟩
def Mx.appE (m : Mx) (x y : Int) : Int := Gm.appE m.a m.b m.c m.d m.e m.f x y
def Mx.app (m : Mx) (op : ByteArray) (x y : Int) : Pt := ⟨op, Gm.appX m.a m.b m.c m.d m.e m.f x y, Gm.appY m.a m.b m.c m.d m.e m.f x y⟩
def start (m : Mx) : St := ⟨m, ⟨0, 0, 0⟩, ⟨0, 0, 0⟩, 1000, ⟨#[]⟩, 0, 0⟩
def newPen : Pen := ⟨start unit, [], [], unit, []⟩
def mOp : ByteArray := ⟨#[109]⟩
def lOp : ByteArray := ⟨#[108]⟩
def hPt : Pt := ⟨⟨#[104]⟩, 0, 0⟩

/-- The first objects are Nums. -/
def HasN (l : List Ob) (fs : List Int) : Prop := ∀ i (h : i < fs.length), ∃ h2 : i < l.length, l[i].k = 2 ∧ l[i].f = fs[i]

def Pen.item (P : Pen) (kind : Int) : It := ⟨kind, P.st.m, P.path, P.st.c, P.st.d, P.st.w, ⟨#[]⟩, 0, ⟨#[]⟩⟩
/-- An Item of the path, if there is any. -/
def Pen.lay (P : Pen) (kind : Int) : Pen := if P.path = [] then P else { P with out := P.out ++ [P.item kind] }
def Pen.paint (P : Pen) (kind : Int) : Pen := { (P.lay kind) with path := [] }
def Pen.shut (P : Pen) : Pen := { P with path := P.path ++ [hPt] }
def Pen.point (P : Pen) (op : ByteArray) (x y : Int) : Pen := { P with path := P.path ++ [P.st.m.app op x y] }
def Pen.setSt (P : Pen) (s : St) : Pen := { P with st := s }

/-- The names that say something. -/
def known : List (List UInt8) := [[113], [81], [99, 109], [119], [103], [71], [114, 103], [82, 71], [109], [108], [104], [114, 101], [102], [70], [102, 42], [83], [115], [66], [66, 42], [98], [98, 42], [110], [87], [87, 42], [66, 84], [84, 109], [84, 100], [84, 68], [84, 76], [84, 42], [84, 102], [84, 106], [39], [84, 74], [68, 111]]

/-- What an operator does, where nothing is wrong. -/
inductive Drw : Pen → Ob → Pen → Prop
  | q (P : Pen) (l : List Ob) (h : P.kept.length < 64) : Drw P (opO ⟨#[113]⟩ l) { P with kept := P.kept ++ [P.st] }
  | bigQ (P : Pen) (l : List Ob) (ks : List St) (s : St) (h : P.kept = ks ++ [s]) (hl : ks.length < 64) : Drw P (opO ⟨#[81]⟩ l) { P with st := s, kept := ks }
  | cm (P : Pen) (l : List Ob) (n : Mx) (h : HasN l [n.a, n.b, n.c, n.d, n.e, n.f]) (he : n.mulE P.st.m = 0) : Drw P (opO ⟨#[99, 109]⟩ l) (P.setSt { P.st with m := n.mul P.st.m })
  | w (P : Pen) (l : List Ob) (x : Int) (h : HasN l [x]) : Drw P (opO ⟨#[119]⟩ l) (P.setSt { P.st with w := x })
  | g (P : Pen) (l : List Ob) (x : Int) (h : HasN l [x]) : Drw P (opO ⟨#[103]⟩ l) (P.setSt { P.st with c := ⟨x, x, x⟩ })
  | bigG (P : Pen) (l : List Ob) (x : Int) (h : HasN l [x]) : Drw P (opO ⟨#[71]⟩ l) (P.setSt { P.st with d := ⟨x, x, x⟩ })
  | rg (P : Pen) (l : List Ob) (x y z : Int) (h : HasN l [x, y, z]) : Drw P (opO ⟨#[114, 103]⟩ l) (P.setSt { P.st with c := ⟨x, y, z⟩ })
  | m (P : Pen) (l : List Ob) (x y : Int) (h : HasN l [x, y]) (he : P.st.m.appE x y = 0) : Drw P (opO mOp l) (P.point mOp x y)
  | l (P : Pen) (l : List Ob) (x y : Int) (h : HasN l [x, y]) (he : P.st.m.appE x y = 0) : Drw P (opO lOp l) (P.point lOp x y)
  | re (P : Pen) (l : List Ob) (x y u v : Int) (h : HasN l [x, y, u, v]) (e1 : Fx.addE x u = 0) (e2 : Fx.addE y v = 0) (a1 : P.st.m.appE x y = 0) (a2 : P.st.m.appE (Fx.addV x u) y = 0)
      (a3 : P.st.m.appE (Fx.addV x u) (Fx.addV y v) = 0) (a4 : P.st.m.appE x (Fx.addV y v) = 0) :
      Drw P (opO ⟨#[114, 101]⟩ l) ((((P.point mOp x y).point lOp (Fx.addV x u) y).point lOp (Fx.addV x u) (Fx.addV y v)).point lOp x (Fx.addV y v)).shut
  | f (P : Pen) (l : List Ob) (h : P.out.length < 65536) : Drw P (opO ⟨#[102]⟩ l) (P.paint 1)
  | bigS (P : Pen) (l : List Ob) (h : P.out.length < 65536) : Drw P (opO ⟨#[83]⟩ l) (P.paint 2)
  | bigB (P : Pen) (l : List Ob) (h : P.out.length < 65536) : Drw P (opO ⟨#[66]⟩ l) (P.paint 3)
  | s (P : Pen) (l : List Ob) (h : P.out.length < 65536) : Drw P (opO ⟨#[115]⟩ l) (P.shut.paint 2)
  | n (P : Pen) (l : List Ob) : Drw P (opO ⟨#[110]⟩ l) { P with path := [] }
  | bt (P : Pen) (l : List Ob) : Drw P (opO ⟨#[66, 84]⟩ l) { P with t := unit }
  | td (P : Pen) (l : List Ob) (x y : Int) (h : HasN l [x, y]) (he : (Mx.mk 1000 0 0 1000 x y).mulE P.t = 0) : Drw P (opO ⟨#[84, 100]⟩ l) { P with t := (Mx.mk 1000 0 0 1000 x y).mul P.t }
  | tf (P : Pen) (o : Ob) (l : List Ob) (x : Int) (hk : o.k = 3) (h : HasN l [x]) : Drw P (opO ⟨#[84, 102]⟩ (o :: l)) (P.setSt { P.st with font := o.s, size := x })
  | tj (P : Pen) (o : Ob) (l : List Ob) (hk : o.k = 4) (he : P.t.mulE P.st.m = 0) (h : P.out.length < 65536) :
      Drw P (opO ⟨#[84, 106]⟩ (o :: l)) { P with out := P.out ++ [⟨5, P.t.mul P.st.m, [], P.st.c, ⟨0, 0, 0⟩, 0, P.st.font, P.st.size, o.s⟩] }
  | none (P : Pen) (s : ByteArray) (l : List Ob) (h : s.data.toList ∉ known) : Drw P (opO s l) P

/-- One operator behind the other. -/
inductive Drws : Pen → List Ob → Pen → Prop
  | nil (P : Pen) : Drws P [] P
  | cons {P Q R : Pen} {o : Ob} {l : List Ob} (h : Drw P o Q) (t : Drws Q l R) : Drws P (o :: l) R
theorem Drws.app {P Q R : Pen} {l m : List Ob} (h : Drws P l Q) (k : Drws Q m R) : Drws P (l ++ m) R := by
  induction h with
  | nil P => exact k
  | cons h _ ih => exact .cons h (ih k)

end Go.Proofs.YtbgdeaeikijdgaaGreatDoor.Px
