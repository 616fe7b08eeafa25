/-
  Arrays and dictionaries in one another: what is read of their text, and of what is cut off. Nothing of the program is named here.
-/
import Derived.Test.YtkpagahnmbchjaaGreatDoorLexM
namespace Go.Proofs.YtkpagahnmbchjaaGreatDoor.Cx
open Lx
set_option linter.unusedSimpArgs false
set_option linter.unusedVariables false

def opn (d : Bool) : List UInt8 := if d then [60, 60, 47, 65, 32] else [91]
def cls (d : Bool) : List UInt8 := if d then [62, 62] else [93]
def nest (d : Bool) : Nat → List UInt8
  | 0 => [55]
  | j + 1 => opn d ++ (nest d j ++ cls d)
def nestO (d : Bool) : Nat → Ob
  | 0 => .mk 2 1 7000 ⟨#[]⟩ [] []
  | j + 1 => if d then .mk 6 0 0 ⟨#[]⟩ [] [(⟨#[65]⟩, nestO d j)] else .mk 5 0 0 ⟨#[]⟩ [nestO d j] []
theorem nest_len (d : Bool) : ∀ j, (nest d j).length = 1 + j * (if d then 7 else 2)
  | 0 => by cases d <;> rfl
  | j + 1 => by
    rw [nest, List.length_append, List.length_append, nest_len d j]
    cases d <;> simp [opn, cls] <;> omega
theorem nestO_k (d : Bool) : ∀ j, (nestO d j).k ≠ 0
  | 0 => by simp [nestO, Ob.k]
  | j + 1 => by cases d <;> simp [nestO, Ob.k]
theorem nestO_count (d : Bool) : ∀ j, (nestO d j).count = j + 1
  | 0 => by simp [nestO, count_mk]
  | j + 1 => by
    have := nestO_count d j
    cases d <;> simp [nestO, count_mk, countL_cons, countD_cons, countL, countD, this] <;> omega

theorem next_app (a r : List UInt8) : nextV (a ++ r) (a.length : Int) = if (nextV r 0).1 = 0 then (0, { (nextV r 0).2 with frm := (nextV r 0).2.frm + a.length, to := (nextV r 0).2.to + a.length }) else ((nextV r 0).1, zero) := by
  have hs : spaceV (a ++ r) (a.length : Int) = spc false r + a.length := by
    unfold spaceV
    have h0 : (min (max (a.length : Int) 0) ((a ++ r).length : Int)).toNat = a.length := by rw [List.length_append]; omega
    rw [h0, List.drop_left]; omega
  have ht := tok_shift a r (spc false r)
  have hc : (0 : Int) ≤ (a.length : Int) ∧ (a.length : Int) ≤ ((a ++ r).length : Int) := ⟨by omega, by rw [List.length_append]; omega⟩
  rw [next_zero]
  unfold nextV
  rw [if_pos hc, hs, ht]
  unfold addT
  by_cases h : (tokV r (spc false r)).1 = 0
  · simp [h]
  · simp [h]
theorem next_white (a r : List UInt8) : nextV (a ++ 32 :: r) (a.length : Int) = nextV (a ++ 32 :: r) ((a.length + 1 : Nat) : Int) := by
  have hs : spaceV (a ++ 32 :: r) (a.length : Int) = spaceV (a ++ 32 :: r) ((a.length + 1 : Nat) : Int) := by
    unfold spaceV
    have h0 : (min (max (a.length : Int) 0) ((a ++ 32 :: r).length : Int)).toNat = a.length := by rw [List.length_append]; omega
    have h1 : (min (max ((a.length + 1 : Nat) : Int) 0) ((a ++ 32 :: r).length : Int)).toNat = a.length + 1 := by rw [List.length_append, List.length_cons]; omega
    rw [h0, h1, List.drop_left, ← List.drop_drop, List.drop_left, List.drop_succ_cons, List.drop_zero, spc, if_pos (show white 32 = true from rfl)]; omega
  have hc : (0 : Int) ≤ (a.length : Int) ∧ (a.length : Int) ≤ ((a ++ 32 :: r).length : Int) := ⟨by omega, by rw [List.length_append]; omega⟩
  have hc' : (0 : Int) ≤ ((a.length + 1 : Nat) : Int) ∧ ((a.length + 1 : Nat) : Int) ≤ ((a ++ 32 :: r).length : Int) := ⟨by omega, by rw [List.length_append, List.length_cons]; omega⟩
  unfold nextV
  rw [if_pos hc, if_pos hc', hs]

/-- A token, by its kind, number, text, wholeness, and the place behind. -/
def IsTok (l : List UInt8) (pos : Nat) (kind f : Int) (s : List UInt8) (wh : Bool) (to : Nat) : Prop :=
  (nextV l pos).1 = 0 ∧ (nextV l pos).2.kind = kind ∧ (nextV l pos).2.f = f ∧ (nextV l pos).2.s = s ∧ (nextV l pos).2.whole = wh ∧ (nextV l pos).2.to = to
theorem isTok_app (a r : List UInt8) {kind f : Int} {s : List UInt8} {wh : Bool} {frm to : Nat} (h : nextV r 0 = (0, ⟨kind, f, s, wh, frm, to⟩)) : IsTok (a ++ r) a.length kind f s wh (a.length + to) := by
  unfold IsTok
  rw [next_app, h]
  simp; omega

theorem next_end : nextV [] 0 = (0, ⟨0, 0, [], false, 0, 0⟩) := by rw [next_zero]; rfl
theorem next_arr (r : List UInt8) : nextV (91 :: r) 0 = (0, ⟨4, 0, [], false, 0, 1⟩) := by rw [next_zero]; rfl
theorem next_cls (r : List UInt8) : nextV (93 :: r) 0 = (0, ⟨5, 0, [], false, 0, 1⟩) := by rw [next_zero]; rfl
theorem next_dict (r : List UInt8) : nextV (60 :: 60 :: r) 0 = (0, ⟨6, 0, [], false, 0, 2⟩) := by rw [next_zero]; rfl
theorem next_fin (r : List UInt8) : nextV (62 :: 62 :: r) 0 = (0, ⟨7, 0, [], false, 0, 2⟩) := by rw [next_zero]; rfl
theorem next_name (r : List UInt8) : nextV (47 :: 65 :: 32 :: r) 0 = (0, ⟨2, 0, [65], false, 0, 2⟩) := by rw [next_zero]; rfl
theorem next_name1 : nextV [47] 0 = (0, ⟨2, 0, [], false, 0, 1⟩) := by rw [next_zero]; rfl
theorem next_name2 : nextV [47, 65] 0 = (0, ⟨2, 0, [65], false, 0, 2⟩) := by rw [next_zero]; rfl
theorem next_lt : nextV [60] 0 = (4, zero) := by rw [next_zero]; rfl
theorem next_gt : nextV [62] 0 = (3, zero) := by rw [next_zero]; rfl

/-- What may follow a number. -/
def Suf (r : List UInt8) : Prop := tw reg r = 0 ∧ wholeT (tokOf (nextV r 0)) = false
theorem suf_nil : Suf [] := ⟨rfl, by rw [next_end]; rfl⟩
theorem suf_cls (r : List UInt8) : Suf (93 :: r) := ⟨rfl, by rw [next_cls]; rfl⟩
theorem suf_fin (r : List UInt8) : Suf (62 :: 62 :: r) := ⟨rfl, by rw [next_fin]; rfl⟩
theorem suf_gt : Suf [62] := ⟨rfl, by rw [next_gt]; rfl⟩
theorem next_seven (r : List UInt8) (h : Suf r) : nextV (55 :: r) 0 = (0, ⟨1, 7000, [], true, 0, 1⟩) := by
  have h1 : tw reg (55 :: r) = 1 := by rw [tw, if_pos (show reg 55 = true from rfl), h.1]
  have hs : spc false (55 :: r) = 0 := rfl
  have ht : tokV (55 :: r) 0 = Lx.wordV (55 :: r) 0 := rfl
  have hw : Lx.wordV (55 :: r) 0 = (0, ⟨1, 7000, [], true, 0, 1⟩) := by
    unfold Lx.wordV
    rw [List.drop_zero, h1, List.take_succ_cons, List.take_zero]
    have e1 : Fx.parseE [55] = 0 := by kernel_rfl
    have e2 : Fx.parseV [55] = 7000 := by kernel_rfl
    have e3 : pointIn [55] = false := by kernel_rfl
    have e4 : numB ((55 :: r).headD 0) = true := rfl
    rw [e1, e2, e3, e4]; rfl
  rw [next_zero, hs, ht, hw]; rfl

/-- The object at a place is read; it fails; it is too deep. -/
def Reads (l : List UInt8) (dep pos : Nat) (x : Ob) (to F0 : Nat) : Prop :=
  (nextV l pos).1 = 0 ∧ (nextV l pos).2.kind ≠ 0 ∧ (nextV l pos).2.kind ≠ 5 ∧ (∀ F, F0 ≤ F → objOf F l dep (nextV l pos).2 = (0, x, to)) ∧ ∀ F, (objOf F l dep (nextV l pos).2).1 ≠ 0 ∨ objOf F l dep (nextV l pos).2 = (0, x, to)
def Fails (l : List UInt8) (dep pos : Nat) : Prop :=
  (nextV l pos).1 ≠ 0 ∨ ((nextV l pos).2.kind ≠ 5 ∧ ∀ F, (objOf F l dep (nextV l pos).2).1 ≠ 0)
def Deep (l : List UInt8) (dep pos : Nat) (F0 : Nat) : Prop :=
  (nextV l pos).1 = 0 ∧ (nextV l pos).2.kind ≠ 0 ∧ (nextV l pos).2.kind ≠ 5 ∧ ∀ F, F0 ≤ F → objOf F l dep (nextV l pos).2 = (5, nul, 0)

theorem obj_arr (F : Nat) (l : List UInt8) (dep : Nat) (t : Tok) (h : t.kind = 4) : objOf (F + 1) l dep t = if dep = 64 then (5, nul, 0) else if (upO F l (dep + 1) [] t.to).1 = 0 then (0, .mk 5 0 0 ⟨#[]⟩ (upO F l (dep + 1) [] t.to).2.1 [], (upO F l (dep + 1) [] t.to).2.2) else ((upO F l (dep + 1) [] t.to).1, nul, 0) := by
  rw [objOf]
  simp only [h, if_true, if_false, show ¬ ((4 : Int) = 0) by decide, show ¬ ((4 : Int) = 1) by decide, show ¬ ((4 : Int) = 2) by decide, show ¬ ((4 : Int) = 3) by decide, show ¬ ((4 : Int) = 8) by decide]
theorem obj_dict (F : Nat) (l : List UInt8) (dep : Nat) (t : Tok) (h : t.kind = 6) : objOf (F + 1) l dep t = if dep = 64 then (5, nul, 0) else if (upE F l (dep + 1) [] t.to).1 = 0 then (0, .mk 6 0 0 ⟨#[]⟩ [] (settle (upE F l (dep + 1) [] t.to).2.1), (upE F l (dep + 1) [] t.to).2.2) else ((upE F l (dep + 1) [] t.to).1, nul, 0) := by
  rw [objOf]
  simp only [h, if_true, if_false, show ¬ ((6 : Int) = 0) by decide, show ¬ ((6 : Int) = 1) by decide, show ¬ ((6 : Int) = 2) by decide, show ¬ ((6 : Int) = 3) by decide, show ¬ ((6 : Int) = 8) by decide, show ¬ ((6 : Int) = 4) by decide]
theorem upO_end (F : Nat) {l : List UInt8} (dep : Nat) (acc : List Ob) {p p3 : Nat} {f : Int} {s : List UInt8} {wh : Bool} (h : IsTok l p 5 f s wh p3) : upO (F + 1) l dep acc p = (0, acc, p3) := by
  obtain ⟨c0, c1, -, -, -, c5⟩ := h
  rw [upO, if_neg (by rw [c0]; decide), if_pos c1, c5]
theorem upE_end (F : Nat) {l : List UInt8} (dep : Nat) (acc : List Entr) {p p3 : Nat} {f : Int} {s : List UInt8} {wh : Bool} (h : IsTok l p 7 f s wh p3) : upE (F + 1) l dep acc p = (0, acc, p3) := by
  obtain ⟨c0, c1, -, -, -, c5⟩ := h
  rw [upE, if_neg (by rw [c0]; decide), if_pos c1, c5]
theorem upO_one (F : Nat) {l : List UInt8} {dep p : Nat} (h0 : (nextV l p).1 = 0) (h1 : (nextV l p).2.kind ≠ 0) (h2 : (nextV l p).2.kind ≠ 5) : upO (F + 1) l dep [] p = if (objOf F l dep (nextV l p).2).1 = 0 then upO F l dep [(objOf F l dep (nextV l p).2).2.1] (objOf F l dep (nextV l p).2).2.2 else ((objOf F l dep (nextV l p).2).1, [], 0) := by
  rw [upO, if_neg (by rw [h0]; decide), if_neg h2, if_neg h1, if_neg (by simp), List.nil_append]
theorem ent_one (F : Nat) {l : List UInt8} {dep p p1 : Nat} {f : Int} {s : List UInt8} {wh : Bool} (h : IsTok l p 2 f s wh p1) : entOf (F + 1) l dep (nextV l p).2 = if (nextV l p1).1 ≠ 0 then ((nextV l p1).1, (⟨#[]⟩, nul), 0) else if (objOf F l dep (nextV l p1).2).1 = 0 then (0, (str s, (objOf F l dep (nextV l p1).2).2.1), (objOf F l dep (nextV l p1).2).2.2) else ((objOf F l dep (nextV l p1).2).1, (⟨#[]⟩, nul), 0) := by
  obtain ⟨c0, c1, -, c3, -, c5⟩ := h
  have hn : ¬ (nextV l p).2.kind ≠ 2 := by rw [c1]; decide
  rw [entOf, if_neg hn, c5, c3]
theorem upE_ent (F : Nat) {l : List UInt8} {dep p p1 : Nat} {f : Int} {s : List UInt8} {wh : Bool} (h : IsTok l p 2 f s wh p1) : upE (F + 1) l dep [] p = if (entOf F l dep (nextV l p).2).1 = 0 then upE F l dep [(entOf F l dep (nextV l p).2).2.1] (entOf F l dep (nextV l p).2).2.2 else ((entOf F l dep (nextV l p).2).1, [], 0) := by
  obtain ⟨c0, c1, -, c3, -, c5⟩ := h
  have h0 : ¬ (nextV l p).1 ≠ 0 := by rw [c0]; decide
  have h1 : ¬ (nextV l p).2.kind = 7 := by rw [c1]; decide
  have h2 : ¬ (nextV l p).2.kind = 0 := by rw [c1]; decide
  have h3 : ¬ ([] : List Entr).length = 1024 := by simp
  rw [upE, if_neg h0, if_neg h1, if_neg h2, if_neg h3, List.nil_append]
theorem upE_one (F : Nat) {l : List UInt8} {dep p p1 : Nat} {f : Int} {s : List UInt8} {wh : Bool} (h : IsTok l p 2 f s wh p1) : upE (F + 2) l dep [] p = if (nextV l p1).1 ≠ 0 then ((nextV l p1).1, [], 0) else if (objOf F l dep (nextV l p1).2).1 = 0 then upE (F + 1) l dep [(str s, (objOf F l dep (nextV l p1).2).2.1)] (objOf F l dep (nextV l p1).2).2.2 else ((objOf F l dep (nextV l p1).2).1, [], 0) := by
  rw [upE_ent _ h, ent_one _ h]
  by_cases h1 : (nextV l p1).1 ≠ 0
  · simp only [if_pos h1, if_neg h1]
  · by_cases h2 : (objOf F l dep (nextV l p1).2).1 = 0
    · simp only [if_neg h1, if_pos h2, if_true]
    · simp only [if_neg h1, if_neg h2]

theorem arr_reads {l : List UInt8} {dep pos p1 p2 p3 F0 : Nat} {x : Ob} {f f' : Int} {s s' : List UInt8} {wh wh' : Bool} (hd : dep < 64) (ht : IsTok l pos 4 f s wh p1) (hr : Reads l (dep + 1) p1 x p2 F0) (hc : IsTok l p2 5 f' s' wh' p3) :
    Reads l dep pos (.mk 5 0 0 ⟨#[]⟩ [x] []) p3 (F0 + 4) := by
  obtain ⟨t0, t1, -, -, -, t5⟩ := ht
  obtain ⟨r0, r1, r2, r3, r4⟩ := hr
  have hu : ∀ G, (objOf (G + 1) l (dep + 1) (nextV l p1).2) = (0, x, p2) → objOf (G + 3) l dep (nextV l pos).2 = (0, .mk 5 0 0 ⟨#[]⟩ [x] [], p3) := fun G h => by
    have e : upO (G + 2) l (dep + 1) [] p1 = (0, [x], p3) := by rw [upO_one _ r0 r1 r2, h, if_pos rfl]; exact upO_end G _ _ hc
    rw [obj_arr _ _ _ _ t1, if_neg (by omega), t5, e, if_pos rfl]
  refine ⟨t0, by rw [t1]; decide, by rw [t1]; decide, fun F hF => ?_, fun F => ?_⟩
  · obtain ⟨G, rfl⟩ : ∃ G, F = G + 3 := ⟨F - 3, by omega⟩
    exact hu G (r3 _ (by omega))
  · match F with
    | 0 => exact .inl (by rw [objOf]; decide)
    | 1 => exact .inl (by rw [obj_arr _ _ _ _ t1, if_neg (by omega), upO]; decide)
    | 2 =>
      refine .inl ?_
      have e : (upO 1 l (dep + 1) [] (nextV l pos).2.to).1 ≠ 0 := by
        rw [t5, upO_one 0 r0 r1 r2, objOf, if_neg (by decide)]; decide
      rw [obj_arr _ _ _ _ t1, if_neg (by omega), if_neg e]; exact e
    | G + 3 =>
      rcases r4 (G + 1) with h | h
      · refine .inl ?_
        have e : (upO (G + 2) l (dep + 1) [] (nextV l pos).2.to).1 ≠ 0 := by
          rw [t5, upO_one _ r0 r1 r2, if_neg h]; exact h
        rw [obj_arr _ _ _ _ t1, if_neg (by omega), if_neg e]; exact e
      · exact .inr (hu G h)
theorem arr_deep {l : List UInt8} {dep pos p1 F0 : Nat} {f : Int} {s : List UInt8} {wh : Bool} (ht : IsTok l pos 4 f s wh p1) (hr : dep ≠ 64 → Deep l (dep + 1) p1 F0) : Deep l dep pos (F0 + 4) := by
  obtain ⟨t0, t1, -, -, -, t5⟩ := ht
  refine ⟨t0, by rw [t1]; decide, by rw [t1]; decide, fun F hF => ?_⟩
  obtain ⟨G, rfl⟩ : ∃ G, F = G + 3 := ⟨F - 3, by omega⟩
  rw [obj_arr _ _ _ _ t1, t5]
  by_cases h : dep = 64
  · rw [if_pos h]
  · rw [if_neg h]
    obtain ⟨r0, r1, r2, r3⟩ := hr h
    have hu : upO (G + 2) l (dep + 1) [] p1 = (5, [], 0) := by
      rw [upO_one _ r0 r1 r2, r3 (G + 1) (by omega)]; rfl
    rw [hu]; rfl
theorem arr_fails {l : List UInt8} {dep pos p1 : Nat} {f : Int} {s : List UInt8} {wh : Bool} (ht : IsTok l pos 4 f s wh p1) (hr : ∀ F, (upO F l (dep + 1) [] p1).1 ≠ 0) : Fails l dep pos := by
  obtain ⟨t0, t1, -, -, -, t5⟩ := ht
  refine .inr ⟨by rw [t1]; decide, fun F => ?_⟩
  cases F with
  | zero => rw [objOf]; decide
  | succ F =>
    rw [obj_arr _ _ _ _ t1, t5]
    split
    · decide
    · rw [if_neg (hr F)]; exact hr F
theorem upO_fails {l : List UInt8} {dep p1 : Nat} {acc : List Ob} (h : Fails l dep p1) : ∀ F, (upO F l dep acc p1).1 ≠ 0 := by
  intro F
  cases F with
  | zero => rw [upO]; decide
  | succ F =>
    rw [upO]
    by_cases h0 : (nextV l p1).1 ≠ 0
    · rw [if_pos h0]; exact h0
    · rw [if_neg h0]
      rcases h with h | ⟨h1, h2⟩
      · exact absurd h h0
      · rw [if_neg h1]
        split
        · decide
        · split
          · decide
          · rw [if_neg (h2 F)]; exact h2 F
/-- Behind an object nothing follows that ends a row. -/
def Ends (l : List UInt8) (p : Nat) : Prop := (nextV l p).1 ≠ 0 ∨ (nextV l p).2.kind = 0
theorem upO_short {l : List UInt8} {dep p1 p2 : Nat} {x : Ob} {F0 : Nat} (h : Reads l dep p1 x p2 F0) (he : Ends l p2) : ∀ F, (upO F l dep [] p1).1 ≠ 0 := by
  intro F
  obtain ⟨r0, r1, r2, -, hn⟩ := h
  cases F with
  | zero => rw [upO]; decide
  | succ F =>
    rw [upO_one _ r0 r1 r2]
    rcases hn F with h | h
    · rw [if_neg h]; exact h
    · rw [h, if_pos rfl]
      cases F with
      | zero => rw [upO]; decide
      | succ F =>
        rw [upO]
        rcases he with he | he
        · rw [if_pos he]; exact he
        · by_cases h0 : (nextV l p2).1 ≠ 0
          · rw [if_pos h0]; exact h0
          · rw [if_neg h0, if_neg (by rw [he]; decide), if_pos he]; decide

theorem settle_one (key : ByteArray) (x : Ob) (h : x.k ≠ 0) : settle [(key, x)] = [(key, x)] := by
  show setD [] key x = _
  unfold setD
  rw [show (x.k == 0) = false by simpa using h, setGo]; rfl
theorem dict_reads {l : List UInt8} {dep pos p0 p1 p2 p3 F0 : Nat} {x : Ob} {f f' f'' : Int} {s s' s'' : List UInt8} {wh wh' wh'' : Bool} (hd : dep < 64) (hx : x.k ≠ 0) (ht : IsTok l pos 6 f s wh p0) (hn : IsTok l p0 2 f'' s'' wh'' p1) (hr : Reads l (dep + 1) p1 x p2 F0) (hc : IsTok l p2 7 f' s' wh' p3) :
    Reads l dep pos (.mk 6 0 0 ⟨#[]⟩ [] [(str s'', x)]) p3 (F0 + 4) := by
  obtain ⟨t0, t1, -, -, -, t5⟩ := ht
  obtain ⟨r0, r1, r2, r3, r4⟩ := hr
  have hu : ∀ G, (objOf G l (dep + 1) (nextV l p1).2) = (0, x, p2) → objOf (G + 3) l dep (nextV l pos).2 = (0, .mk 6 0 0 ⟨#[]⟩ [] [(str s'', x)], p3) := fun G h => by
    have e : upE (G + 2) l (dep + 1) [] p0 = (0, [(str s'', x)], p3) := by rw [upE_one _ hn, if_neg (by rw [r0]; decide), h, if_pos rfl]; exact upE_end G _ _ hc
    rw [obj_dict _ _ _ _ t1, if_neg (by omega), t5, e, if_pos rfl, settle_one _ _ hx]
  refine ⟨t0, by rw [t1]; decide, by rw [t1]; decide, fun F hF => ?_, fun F => ?_⟩
  · obtain ⟨G, rfl⟩ : ∃ G, F = G + 3 := ⟨F - 3, by omega⟩
    exact hu G (r3 _ (by omega))
  · match F with
    | 0 => exact .inl (by rw [objOf]; decide)
    | 1 => exact .inl (by rw [obj_dict _ _ _ _ t1, if_neg (by omega), upE]; decide)
    | 2 =>
      refine .inl ?_
      have e : (upE 1 l (dep + 1) [] (nextV l pos).2.to).1 ≠ 0 := by
        rw [t5, upE_ent 0 hn, entOf, if_neg (by decide)]; decide
      rw [obj_dict _ _ _ _ t1, if_neg (by omega), if_neg e]; exact e
    | G + 3 =>
      rcases r4 G with h | h
      · refine .inl ?_
        have e : (upE (G + 2) l (dep + 1) [] (nextV l pos).2.to).1 ≠ 0 := by
          rw [t5, upE_one _ hn, if_neg (by rw [r0]; decide), if_neg h]; exact h
        rw [obj_dict _ _ _ _ t1, if_neg (by omega), if_neg e]; exact e
      · exact .inr (hu G h)
theorem dict_deep {l : List UInt8} {dep pos p0 p1 F0 : Nat} {f f'' : Int} {s s'' : List UInt8} {wh wh'' : Bool} (ht : IsTok l pos 6 f s wh p0) (hn : IsTok l p0 2 f'' s'' wh'' p1) (hr : dep ≠ 64 → Deep l (dep + 1) p1 F0) : Deep l dep pos (F0 + 4) := by
  obtain ⟨t0, t1, -, -, -, t5⟩ := ht
  refine ⟨t0, by rw [t1]; decide, by rw [t1]; decide, fun F hF => ?_⟩
  obtain ⟨G, rfl⟩ : ∃ G, F = G + 3 := ⟨F - 3, by omega⟩
  rw [obj_dict _ _ _ _ t1, t5]
  by_cases h : dep = 64
  · rw [if_pos h]
  · rw [if_neg h]
    obtain ⟨r0, r1, r2, r3⟩ := hr h
    have hu : upE (G + 2) l (dep + 1) [] p0 = (5, [], 0) := by
      rw [upE_one _ hn, if_neg (by rw [r0]; decide), r3 G (by omega)]; rfl
    rw [hu]; rfl
theorem dict_fails {l : List UInt8} {dep pos p1 : Nat} {f : Int} {s : List UInt8} {wh : Bool} (ht : IsTok l pos 6 f s wh p1) (hr : ∀ F, (upE F l (dep + 1) [] p1).1 ≠ 0) : Fails l dep pos := by
  obtain ⟨t0, t1, -, -, -, t5⟩ := ht
  refine .inr ⟨by rw [t1]; decide, fun F => ?_⟩
  cases F with
  | zero => rw [objOf]; decide
  | succ F =>
    rw [obj_dict _ _ _ _ t1, t5]
    split
    · decide
    · rw [if_neg (hr F)]; exact hr F
theorem upE_ends {l : List UInt8} {dep p1 : Nat} {acc : List Entr} (h : Ends l p1) : ∀ F, (upE F l dep acc p1).1 ≠ 0 := by
  intro F
  cases F with
  | zero => rw [upE]; decide
  | succ F =>
    rw [upE]
    rcases h with he | he
    · rw [if_pos he]; exact he
    · by_cases h0 : (nextV l p1).1 ≠ 0
      · rw [if_pos h0]; exact h0
      · rw [if_neg h0, if_neg (by rw [he]; decide), if_pos he]; decide
theorem upE_fails {l : List UInt8} {dep p0 p1 : Nat} {f : Int} {s : List UInt8} {wh : Bool} (hn : IsTok l p0 2 f s wh p1) (h : Fails l dep p1) : ∀ F, (upE F l dep [] p0).1 ≠ 0 := by
  intro F
  match F with
  | 0 => rw [upE]; decide
  | 1 =>
    rw [upE_ent 0 hn, entOf, if_neg (by decide)]; decide
  | F + 2 =>
    rw [upE_one _ hn]
    by_cases h0 : (nextV l p1).1 ≠ 0
    · rw [if_pos h0]; exact h0
    · rw [if_neg h0]
      rcases h with h | ⟨h1, h2⟩
      · exact absurd h h0
      · rw [if_neg (h2 F)]; exact h2 F
theorem upE_short {l : List UInt8} {dep p0 p1 p2 : Nat} {x : Ob} {F0 : Nat} {f : Int} {s : List UInt8} {wh : Bool} (hn : IsTok l p0 2 f s wh p1) (h : Reads l dep p1 x p2 F0) (he : Ends l p2) : ∀ F, (upE F l dep [] p0).1 ≠ 0 := by
  intro F
  obtain ⟨r0, r1, r2, -, hn'⟩ := h
  match F with
  | 0 => rw [upE]; decide
  | 1 =>
    rw [upE_ent 0 hn, entOf, if_neg (by decide)]; decide
  | F + 2 =>
    rw [upE_one _ hn, if_neg (by rw [r0]; decide)]
    rcases hn' F with h | h
    · rw [if_neg h]; exact h
    · rw [h, if_pos rfl]; exact upE_ends he _

theorem ends_nil (a : List UInt8) : Ends (a ++ []) a.length := .inr (by have := isTok_app a [] next_end; exact this.2.1)
theorem fails_nil (a : List UInt8) (dep : Nat) : Fails (a ++ []) dep a.length := by
  have h := isTok_app a [] next_end
  refine .inr ⟨by rw [h.2.1]; decide, fun F => ?_⟩
  cases F with
  | zero => rw [objOf]; decide
  | succ F => rw [objOf, if_pos h.2.1]; decide
theorem err_app (a r : List UInt8) (e : Int) (h : nextV r 0 = (e, zero)) (he : e ≠ 0) : (nextV (a ++ r) a.length).1 ≠ 0 := by
  rw [next_app, h]; simp only []; rw [if_neg he]; exact he
theorem next_to {l : List UInt8} {p q : Nat} (h : nextV l p = nextV l q) {dep to F0 : Nat} {x : Ob} : (Reads l dep q x to F0 → Reads l dep p x to F0) ∧ (Fails l dep q → Fails l dep p) ∧ (Deep l dep q F0 → Deep l dep p F0) := by
  unfold Reads Fails Deep; rw [h]; exact ⟨id, id, id⟩

theorem nest_reads (d : Bool) : ∀ (j : Nat) (pre suf : List UInt8) (dep : Nat), dep + j ≤ 64 → Suf suf → Reads (pre ++ (nest d j ++ suf)) dep pre.length (nestO d j) (pre.length + (nest d j).length) (4 * j + 1)
  | 0, pre, suf, dep, _, hs => by
    have h := isTok_app pre (55 :: suf) (next_seven suf hs)
    have hF : ∀ F, objOf (F + 1) (pre ++ (55 :: suf)) dep (nextV (pre ++ (55 :: suf)) pre.length).2 = (0, nestO d 0, pre.length + 1) := fun F => by
      obtain ⟨h0, h1, h2, h3, h4, h5⟩ := h
      have hn : wholeT (tokOf (nextV (pre ++ (55 :: suf)) ((pre.length + 1 : Nat) : Int))) = false := by
        have h6 : nextV (pre ++ (55 :: suf)) ((pre.length + 1 : Nat) : Int) = nextV ((pre ++ [55]) ++ suf) ((pre ++ [55]).length : Int) := by simp
        have h7 := hs.2
        rw [h6, next_app]
        unfold tokOf at h7 ⊢
        by_cases hz : (nextV suf 0).1 = 0
        · rw [if_pos hz] at h7
          rw [if_pos hz]; exact h7
        · rw [if_neg hz] at h7
          rw [if_neg hz]
          simp only []
          rw [if_neg hz]; exact h7
      have hnum : numberV (pre ++ (55 :: suf)) (nextV (pre ++ (55 :: suf)) pre.length).2 = (nestO d 0, pre.length + 1) := by
        unfold numberV
        rw [h5, hn]
        simp only [Bool.false_eq_true, if_false, ite_self]
        unfold numV
        rw [h4, h2]; rfl
      rw [objOf, if_neg (by rw [h1]; decide), if_pos h1, hnum]
    refine ⟨h.1, by rw [show pre ++ (nest d 0 ++ suf) = pre ++ (55 :: suf) from rfl, h.2.1]; decide, by rw [show pre ++ (nest d 0 ++ suf) = pre ++ (55 :: suf) from rfl, h.2.1]; decide, fun F hF' => ?_, fun F => ?_⟩
    · obtain ⟨G, rfl⟩ : ∃ G, F = G + 1 := ⟨F - 1, by omega⟩
      exact hF G
    · cases F with
      | zero => exact .inl (by rw [objOf]; decide)
      | succ F => exact .inr (hF F)
  | j + 1, pre, suf, dep, hd, hs => by
    cases d with
    | false =>
      have e0 : pre ++ (nest false (j + 1) ++ suf) = pre ++ (91 :: (nest false j ++ (93 :: suf))) := by simp [nest, opn, cls]
      have e1 : pre ++ (91 :: (nest false j ++ (93 :: suf))) = (pre ++ [91]) ++ (nest false j ++ (93 :: suf)) := by simp
      have e2 : (pre ++ [91]) ++ (nest false j ++ (93 :: suf)) = (pre ++ [91] ++ nest false j) ++ (93 :: suf) := by simp
      have h1 := isTok_app pre (91 :: (nest false j ++ (93 :: suf))) (next_arr _)
      have h2 := nest_reads false j (pre ++ [91]) (93 :: suf) (dep + 1) (by omega) (suf_cls suf)
      have h3 := isTok_app (pre ++ [91] ++ nest false j) (93 :: suf) (next_cls suf)
      rw [← e2, ← e1, ← e0] at h3
      rw [← e1, ← e0] at h2
      rw [← e0] at h1
      simp only [List.length_append, List.length_cons, List.length_nil, Nat.zero_add] at h1 h2 h3
      have hd' : dep < 64 := by omega
      have := arr_reads hd' h1 h2 h3
      rw [show pre.length + (nest false (j + 1)).length = pre.length + 1 + (nest false j).length + 1 by rw [nest_len, nest_len]; simp; omega]
      exact this
    | true =>
      have e0 : pre ++ (nest true (j + 1) ++ suf) = pre ++ (60 :: 60 :: (47 :: 65 :: 32 :: (nest true j ++ (62 :: 62 :: suf)))) := by simp [nest, opn, cls]
      have e1 : pre ++ (60 :: 60 :: (47 :: 65 :: 32 :: (nest true j ++ (62 :: 62 :: suf)))) = (pre ++ [60, 60]) ++ (47 :: 65 :: 32 :: (nest true j ++ (62 :: 62 :: suf))) := by simp
      have e2 : (pre ++ [60, 60]) ++ (47 :: 65 :: 32 :: (nest true j ++ (62 :: 62 :: suf))) = (pre ++ [60, 60, 47, 65]) ++ (32 :: (nest true j ++ (62 :: 62 :: suf))) := by simp
      have e3 : (pre ++ [60, 60, 47, 65]) ++ (32 :: (nest true j ++ (62 :: 62 :: suf))) = (pre ++ [60, 60, 47, 65, 32]) ++ (nest true j ++ (62 :: 62 :: suf)) := by simp
      have e4 : (pre ++ [60, 60, 47, 65, 32]) ++ (nest true j ++ (62 :: 62 :: suf)) = (pre ++ [60, 60, 47, 65, 32] ++ nest true j) ++ (62 :: 62 :: suf) := by simp
      have h1 := isTok_app pre (60 :: 60 :: (47 :: 65 :: 32 :: (nest true j ++ (62 :: 62 :: suf)))) (next_dict _)
      have h2 := isTok_app (pre ++ [60, 60]) (47 :: 65 :: 32 :: (nest true j ++ (62 :: 62 :: suf))) (next_name _)
      have h3 := next_white (pre ++ [60, 60, 47, 65]) (nest true j ++ (62 :: 62 :: suf))
      have h4 := nest_reads true j (pre ++ [60, 60, 47, 65, 32]) (62 :: 62 :: suf) (dep + 1) (by omega) (suf_fin suf)
      have h5 := isTok_app (pre ++ [60, 60, 47, 65, 32] ++ nest true j) (62 :: 62 :: suf) (next_fin suf)
      rw [← e4, ← e3, ← e2, ← e1, ← e0] at h5
      rw [← e3, ← e2, ← e1, ← e0] at h4
      rw [← e2, ← e1, ← e0] at h3
      rw [← e1, ← e0] at h2
      rw [← e0] at h1
      simp only [List.length_append, List.length_cons, List.length_nil, Nat.zero_add, Nat.reduceAdd] at h1 h2 h3 h4 h5
      have hd' : dep < 64 := by omega
      have := dict_reads hd' (nestO_k true j) h1 h2 ((next_to h3).1 h4) h5
      rw [show pre.length + (nest true (j + 1)).length = pre.length + 5 + (nest true j).length + 2 by rw [nest_len, nest_len]; simp; omega]
      exact this

theorem nest_deep (d : Bool) : ∀ (j : Nat) (pre suf : List UInt8) (dep : Nat), dep ≤ 64 → 64 < dep + j → Deep (pre ++ (nest d j ++ suf)) dep pre.length (4 * j + 1)
  | 0, pre, suf, dep, h1, h2 => absurd h2 (by omega)
  | j + 1, pre, suf, dep, h1, h2 => by
    cases d with
    | false =>
      have e0 : pre ++ (nest false (j + 1) ++ suf) = pre ++ (91 :: (nest false j ++ (93 :: suf))) := by simp [nest, opn, cls]
      have e1 : pre ++ (91 :: (nest false j ++ (93 :: suf))) = (pre ++ [91]) ++ (nest false j ++ (93 :: suf)) := by simp
      have t1 := isTok_app pre (91 :: (nest false j ++ (93 :: suf))) (next_arr _)
      rw [← e0] at t1
      have := arr_deep (dep := dep) t1 (F0 := 4 * j + 1) (fun hne => by
        have := nest_deep false j (pre ++ [91]) (93 :: suf) (dep + 1) (by omega) (by omega)
        rw [← e1, ← e0, List.length_append] at this; exact this)
      exact this
    | true =>
      have e0 : pre ++ (nest true (j + 1) ++ suf) = pre ++ (60 :: 60 :: (47 :: 65 :: 32 :: (nest true j ++ (62 :: 62 :: suf)))) := by simp [nest, opn, cls]
      have e1 : pre ++ (60 :: 60 :: (47 :: 65 :: 32 :: (nest true j ++ (62 :: 62 :: suf)))) = (pre ++ [60, 60]) ++ (47 :: 65 :: 32 :: (nest true j ++ (62 :: 62 :: suf))) := by simp
      have e2 : (pre ++ [60, 60]) ++ (47 :: 65 :: 32 :: (nest true j ++ (62 :: 62 :: suf))) = (pre ++ [60, 60, 47, 65]) ++ (32 :: (nest true j ++ (62 :: 62 :: suf))) := by simp
      have e3 : (pre ++ [60, 60, 47, 65]) ++ (32 :: (nest true j ++ (62 :: 62 :: suf))) = (pre ++ [60, 60, 47, 65, 32]) ++ (nest true j ++ (62 :: 62 :: suf)) := by simp
      have t1 := isTok_app pre (60 :: 60 :: (47 :: 65 :: 32 :: (nest true j ++ (62 :: 62 :: suf)))) (next_dict _)
      have t2 := isTok_app (pre ++ [60, 60]) (47 :: 65 :: 32 :: (nest true j ++ (62 :: 62 :: suf))) (next_name _)
      have t3 := next_white (pre ++ [60, 60, 47, 65]) (nest true j ++ (62 :: 62 :: suf))
      rw [← e2, ← e1, ← e0] at t3
      rw [← e1, ← e0] at t2
      rw [← e0] at t1
      simp only [List.length_append, List.length_cons, List.length_nil, Nat.zero_add, Nat.reduceAdd] at t1 t2 t3
      have := dict_deep (dep := dep) t1 t2 (F0 := 4 * j + 1) (fun hne => by
        have h4 := nest_deep true j (pre ++ [60, 60, 47, 65, 32]) (62 :: 62 :: suf) (dep + 1) (by omega) (by omega)
        rw [← e3, ← e2, ← e1, ← e0] at h4
        simp only [List.length_append, List.length_cons, List.length_nil, Nat.zero_add, Nat.reduceAdd] at h4
        exact (next_to (to := 0) (x := nul) t3).2.2 h4)
      exact this

theorem ends_gt (a : List UInt8) : Ends (a ++ [62]) a.length := .inl (err_app a [62] 3 next_gt (by decide))
theorem nest_cut (d : Bool) : ∀ (j : Nat) (pre : List UInt8) (dep c : Nat), dep + j ≤ 64 → c < (nest d j).length → Fails (pre ++ (nest d j).take c) dep pre.length
  | 0, pre, dep, c, _, hc => by
    obtain rfl : c = 0 := by simpa [nest] using hc
    exact fails_nil pre dep
  | j + 1, pre, dep, 0, _, _ => fails_nil pre dep
  | j + 1, pre, dep, c + 1, hd, hc => by
    cases d with
    | false =>
      have hl : (nest false (j + 1)).length = (nest false j).length + 2 := by rw [nest_len, nest_len]; simp; omega
      have e0 : (nest false (j + 1)).take (c + 1) = 91 :: (nest false j ++ [93]).take c := by simp [nest, opn, cls]
      have t1 := isTok_app pre (91 :: (nest false j ++ [93]).take c) (next_arr _)
      have e1 : pre ++ (91 :: (nest false j ++ [93]).take c) = (pre ++ [91]) ++ (nest false j ++ [93]).take c := by simp
      rw [e0]
      refine arr_fails t1 ?_
      rw [e1]
      by_cases h : c < (nest false j).length
      · have ih := nest_cut false j (pre ++ [91]) (dep + 1) c (by omega) h
        rw [List.take_append_of_le_length (by omega)]
        rw [List.length_append] at ih
        exact upO_fails ih
      · obtain rfl : c = (nest false j).length := by omega
        rw [List.take_left]
        have hr := nest_reads false j (pre ++ [91]) [] (dep + 1) (by omega) suf_nil
        have he := ends_nil (pre ++ [91] ++ nest false j)
        rw [List.append_nil] at hr he
        rw [List.length_append, List.length_append] at he
        rw [List.length_append] at hr
        exact upO_short hr he
    | true =>
      have hl : (nest true (j + 1)).length = (nest true j).length + 7 := by rw [nest_len, nest_len]; simp; omega
      match c, hc with
      | 0, _ => exact .inl (err_app pre [60] 4 next_lt (by decide))
      | 1, _ =>
        have t1 := isTok_app pre [60, 60] (next_dict _)
        have he := ends_nil (pre ++ [60, 60])
        rw [List.append_nil, List.length_append] at he
        exact dict_fails t1 (upE_ends he)
      | 2, _ =>
        have t1 := isTok_app pre [60, 60, 47] (next_dict _)
        have t2 := isTok_app (pre ++ [60, 60]) [47] next_name1
        have hf := fails_nil (pre ++ [60, 60, 47]) (dep + 1)
        rw [show pre ++ [60, 60] ++ [47] = pre ++ [60, 60, 47] by simp] at t2
        rw [List.append_nil] at hf
        simp only [List.length_append, List.length_cons, List.length_nil, Nat.zero_add, Nat.reduceAdd] at t1 t2 hf
        exact dict_fails t1 (upE_fails t2 hf)
      | 3, _ =>
        have t1 := isTok_app pre [60, 60, 47, 65] (next_dict _)
        have t2 := isTok_app (pre ++ [60, 60]) [47, 65] next_name2
        have hf := fails_nil (pre ++ [60, 60, 47, 65]) (dep + 1)
        rw [show pre ++ [60, 60] ++ [47, 65] = pre ++ [60, 60, 47, 65] by simp] at t2
        rw [List.append_nil] at hf
        simp only [List.length_append, List.length_cons, List.length_nil, Nat.zero_add, Nat.reduceAdd] at t1 t2 hf
        exact dict_fails t1 (upE_fails t2 hf)
      | c + 4, hc =>
        have e0 : pre ++ (nest true (j + 1)).take (c + 4 + 1) = pre ++ (60 :: 60 :: (47 :: 65 :: 32 :: (nest true j ++ [62, 62]).take c)) := by simp [nest, opn, cls]
        obtain ⟨X, hX⟩ : ∃ X, X = (nest true j ++ [62, 62]).take c := ⟨_, rfl⟩
        rw [← hX] at e0
        have e1 : pre ++ (60 :: 60 :: (47 :: 65 :: 32 :: X)) = (pre ++ [60, 60]) ++ (47 :: 65 :: 32 :: X) := by simp
        have e2 : (pre ++ [60, 60]) ++ (47 :: 65 :: 32 :: X) = (pre ++ [60, 60, 47, 65]) ++ (32 :: X) := by simp
        have e3 : (pre ++ [60, 60, 47, 65]) ++ (32 :: X) = (pre ++ [60, 60, 47, 65, 32]) ++ X := by simp
        have t1 := isTok_app pre (60 :: 60 :: (47 :: 65 :: 32 :: X)) (next_dict _)
        have t2 := isTok_app (pre ++ [60, 60]) (47 :: 65 :: 32 :: X) (next_name _)
        have t3 := next_white (pre ++ [60, 60, 47, 65]) X
        rw [← e2, ← e1] at t3
        rw [← e1] at t2
        rw [e0]
        simp only [List.length_append, List.length_cons, List.length_nil, Nat.zero_add, Nat.reduceAdd] at t1 t2 t3
        refine dict_fails t1 ?_
        by_cases h : c < (nest true j).length
        · have ih := nest_cut true j (pre ++ [60, 60, 47, 65, 32]) (dep + 1) c (by omega) h
          have hX' : X = (nest true j).take c := by rw [hX, List.take_append_of_le_length (by omega)]
          rw [← hX', ← e3, ← e2, ← e1] at ih
          simp only [List.length_append, List.length_cons, List.length_nil, Nat.zero_add, Nat.reduceAdd] at ih
          exact upE_fails t2 ((next_to (to := 0) (x := nul) (F0 := 0) t3).2.1 ih)
        · have hX' : X = nest true j ++ [62, 62].take (c - (nest true j).length) := by
            rw [hX, List.take_append, List.take_of_length_le (by omega)]
          have hc' : c - (nest true j).length = 0 ∨ c - (nest true j).length = 1 := by omega
          have hr : ∀ suf, X = nest true j ++ suf → Suf suf → Reads (pre ++ (60 :: 60 :: (47 :: 65 :: 32 :: X))) (dep + 1) (pre.length + 2 + 2) (nestO true j) (pre.length + 5 + (nest true j).length) (4 * j + 1) := fun suf hs hsuf => by
            have hr := nest_reads true j (pre ++ [60, 60, 47, 65, 32]) suf (dep + 1) (by omega) hsuf
            rw [← hs, ← e3, ← e2, ← e1] at hr
            simp only [List.length_append, List.length_cons, List.length_nil, Nat.zero_add, Nat.reduceAdd] at hr
            exact (next_to t3).1 hr
          have he : ∀ suf, X = nest true j ++ suf → Ends ((pre ++ [60, 60, 47, 65, 32] ++ nest true j) ++ suf) (pre ++ [60, 60, 47, 65, 32] ++ nest true j).length → Ends (pre ++ (60 :: 60 :: (47 :: 65 :: 32 :: X))) (pre.length + 5 + (nest true j).length) := fun suf hs h => by
            rw [List.append_assoc, ← hs, ← e3, ← e2, ← e1] at h
            simp only [List.length_append, List.length_cons, List.length_nil, Nat.zero_add, Nat.reduceAdd] at h
            exact h
          rcases hc' with h0 | h0
          · rw [h0] at hX'
            exact upE_short t2 (hr _ hX' suf_nil) (he _ hX' (ends_nil _))
          · rw [h0] at hX'
            exact upE_short t2 (hr _ hX' suf_gt) (he _ hX' (ends_gt _))

theorem obj_end (F : Nat) (l : List UInt8) (dep : Nat) (t : Tok) (h : t.kind = 0) : (objOf F l dep t).1 ≠ 0 := by
  cases F with
  | zero => rw [objOf]; decide
  | succ F => rw [objOf, if_pos h]; decide
/-- What Parse answers of a nest, of one that is too deep, and of one that is cut off. -/
theorem parse_nest (d : Bool) (k : Nat) (h : k ≤ 64) : Cx.parse (nest d k) 0 = (0, nestO d k, (nest d k).length) := by
  obtain ⟨h0, -, -, h3, -⟩ := nest_reads d k [] [] 0 (by omega) suf_nil
  simp only [List.nil_append, List.append_nil, List.length_nil, Nat.zero_add] at h0 h3
  unfold Cx.parse
  rw [if_neg (by rw [show ((0 : Int)) = ((0 : Nat) : Int) from rfl, h0]; decide)]
  exact h3 _ (by rw [nest_len]; split <;> omega)
theorem parse_deep (d : Bool) (k : Nat) (h : 64 < k) : Cx.parse (nest d k) 0 = (5, nul, 0) := by
  obtain ⟨h0, -, -, h3⟩ := nest_deep d k [] [] 0 (by omega) (by omega)
  simp only [List.nil_append, List.append_nil, List.length_nil, Nat.zero_add] at h0 h3
  unfold Cx.parse
  rw [if_neg (by rw [show ((0 : Int)) = ((0 : Nat) : Int) from rfl, h0]; decide)]
  exact h3 _ (by rw [nest_len]; split <;> omega)
theorem parse_cut (d : Bool) (k c : Nat) (h : k ≤ 64) (hc : c < (nest d k).length) : (Cx.parse ((nest d k).take c) 0).1 ≠ 0 := by
  have hf := nest_cut d k [] 0 c (by omega) hc
  simp only [List.nil_append, List.length_nil] at hf
  unfold Cx.parse
  by_cases h0 : (nextV ((nest d k).take c) 0).1 ≠ 0
  · rw [if_pos h0]; exact h0
  · rw [if_neg h0]
    rcases hf with hf | hf
    · exact absurd hf h0
    · exact hf.2 _

end Go.Proofs.YtkpagahnmbchjaaGreatDoor.Cx
