/-
  What was written is read as it was: an object's text, behind anything, ahead of what may follow. Nothing of the program is named here.
-/
import Derived.Test.YtkpagahnmbchjaaGreatDoorWbTok
import Derived.Test.YtkpagahnmbchjaaGreatDoorLexM
namespace Go.Proofs.YtkpagahnmbchjaaGreatDoor.Cx
open Lx
set_option linter.unusedSimpArgs false
set_option linter.unusedVariables false

/-- What may follow an object. -/
def Aft (r : List UInt8) : Prop := tw reg r = 0 ∧ isW (tokOf (nextV r 0)) [82] = false ∧ (wholeT (tokOf (nextV r 0)) = true → isW (tokOf (nextV r ((tokOf (nextV r 0)).to : Nat))) [82] = false)
theorem aft_nil : Aft [] := ⟨rfl, by rw [next_end]; rfl, by rw [next_end]; intro h; exact absurd h (by decide)⟩
theorem aft_cls (r : List UInt8) : Aft (93 :: r) := ⟨rfl, by rw [next_cls]; rfl, by rw [next_cls]; intro h; exact absurd h (by decide)⟩
theorem aft_fin (r : List UInt8) : Aft (62 :: 62 :: r) := ⟨rfl, by rw [next_fin]; rfl, by rw [next_fin]; intro h; exact absurd h (by decide)⟩

/-- A token behind a prefix, errors forgotten. -/
theorem tokOf_app (a r : List UInt8) : tokOf (nextV (a ++ r) a.length) = if (nextV r 0).1 = 0 then { (nextV r 0).2 with frm := (nextV r 0).2.frm + a.length, to := (nextV r 0).2.to + a.length } else zero := by
  rw [next_app]
  by_cases h : (nextV r 0).1 = 0
  · rw [if_pos h, if_pos h]; rfl
  · rw [if_neg h, if_neg h]; unfold tokOf; rw [if_neg h]
theorem tokOf_ok {r : List UInt8} {a : Int} (h : (nextV r a).1 = 0) : tokOf (nextV r a) = (nextV r a).2 := if_pos h
theorem tokOf_no {r : List UInt8} {a : Int} (h : (nextV r a).1 ≠ 0) : tokOf (nextV r a) = zero := if_neg h
theorem whole_app' (a r : List UInt8) : wholeT (tokOf (nextV (a ++ r) a.length)) = wholeT (tokOf (nextV r 0)) := by
  rw [tokOf_app]
  by_cases h : (nextV r 0).1 = 0
  · rw [if_pos h, tokOf_ok h]; rfl
  · rw [if_neg h, tokOf_no h]
theorem isW_app (a r : List UInt8) (s : List UInt8) : isW (tokOf (nextV (a ++ r) a.length)) s = isW (tokOf (nextV r 0)) s := by
  rw [tokOf_app]
  by_cases h : (nextV r 0).1 = 0
  · rw [if_pos h, tokOf_ok h]; rfl
  · rw [if_neg h, tokOf_no h]
/-- A token further on behind a prefix. -/
theorem next_far (a r : List UInt8) (k : Nat) (hk : k ≤ r.length) : tokOf (nextV (a ++ r) ((a.length + k : Nat) : Int)) = tokOf (nextV ((a ++ r.take k) ++ r.drop k) ((a ++ r.take k).length : Int)) := by
  rw [List.append_assoc, List.take_append_drop, List.length_append, List.length_take, Nat.min_eq_left hk]
theorem isW_far (a r : List UInt8) (k : Nat) (hk : k ≤ r.length) (s : List UInt8) : isW (tokOf (nextV (a ++ r) ((a.length + k : Nat) : Int))) s = isW (tokOf (nextV r (k : Int))) s := by
  have h1 := next_far a r k hk
  have h2 := next_far [] r k hk
  rw [List.nil_append, List.length_nil, Nat.zero_add] at h2
  rw [h1, isW_app, h2, List.nil_append, isW_app]
theorem whole_far (a r : List UInt8) (k : Nat) (hk : k ≤ r.length) : wholeT (tokOf (nextV (a ++ r) ((a.length + k : Nat) : Int))) = wholeT (tokOf (nextV r (k : Int))) := by
  have h1 := next_far a r k hk
  have h2 := next_far [] r k hk
  rw [List.nil_append, List.length_nil, Nat.zero_add] at h2
  rw [h1, whole_app', h2, List.nil_append, whole_app']

/-- A number that is no Ref's. -/
theorem number_num {pre t suf : List UInt8} (ha : Aft suf) {T : Tok} (hto : T.to = pre.length + t.length) : numberV (pre ++ (t ++ suf)) T = (numV T, T.to) := by
  unfold numberV
  have e : pre ++ (t ++ suf) = (pre ++ t) ++ suf := by rw [List.append_assoc]
  have h1 : tokOf (nextV (pre ++ (t ++ suf)) (T.to : Int)) = tokOf (nextV ((pre ++ t) ++ suf) ((pre ++ t).length : Int)) := by rw [e, hto, List.length_append]
  by_cases hw : wholeT (tokOf (nextV suf 0)) = true
  · have h2 : isW (tokOf (nextV (pre ++ (t ++ suf)) ((tokOf (nextV (pre ++ (t ++ suf)) (T.to : Int))).to : Int))) [82] = false := by
      have h0 : (nextV suf 0).1 = 0 := by
        by_cases h0 : (nextV suf 0).1 = 0
        · exact h0
        · rw [tokOf_no h0] at hw; exact absurd hw (by decide)
      have h3 : (tokOf (nextV (pre ++ (t ++ suf)) (T.to : Int))).to = (pre ++ t).length + (tokOf (nextV suf 0)).to := by
        rw [h1, tokOf_app, if_pos h0, tokOf_ok h0]
        simp only []
        omega
      have hle : (tokOf (nextV suf 0)).to ≤ suf.length := by
        rw [tokOf_ok h0]; exact (next_le suf 0 h0).2
      rw [h3, e, isW_far _ _ _ hle]
      exact ha.2.2 hw
    rw [h2]
    simp only [Bool.false_eq_true, if_false, ite_self]
  · rw [h1, whole_app', if_neg hw]
    simp only [ite_self]

mutual
/-- An object with its own kind's fields alone. -/
def Ob.norm : Ob → Ob
  | .mk k n f s l d => .mk k (if k = 1 ∨ k = 2 ∨ k = 7 then n else 0) (if k = 2 ∨ k = 7 then f else 0) (if k = 3 ∨ k = 4 ∨ k = 8 then s else ⟨#[]⟩) (if k = 5 then normL l else []) (if k = 6 ∨ k = 8 then normD d else [])
def normL : List Ob → List Ob
  | [] => []
  | x :: r => x.norm :: normL r
def normD : List (ByteArray × Ob) → List (ByteArray × Ob)
  | [] => []
  | (key, x) :: r => (key, x.norm) :: normD r
end
theorem norm_mk (k n f : Int) (s : ByteArray) (l : List Ob) (d : List Entr) : (Ob.mk k n f s l d).norm = .mk k (if k = 1 ∨ k = 2 ∨ k = 7 then n else 0) (if k = 2 ∨ k = 7 then f else 0) (if k = 3 ∨ k = 4 ∨ k = 8 then s else ⟨#[]⟩) (if k = 5 then normL l else []) (if k = 6 ∨ k = 8 then normD d else []) := by rw [Ob.norm]
theorem normL_map : ∀ l : List Ob, normL l = l.map Ob.norm
  | [] => by rw [normL]; rfl
  | x :: r => by rw [normL, normL_map r, List.map_cons]
theorem normD_map : ∀ l : List Entr, normD l = l.map (fun e => (e.1, e.2.norm))
  | [] => by rw [normD]; rfl
  | (key, x) :: r => by rw [normD, normD_map r, List.map_cons]
theorem norm_k (o : Ob) : o.norm.k = o.k := by obtain ⟨k, n, f, s, l, d⟩ := o; rw [norm_mk]; rfl

/-- An object's text is read, whatever stands ahead of it, and ahead of what may follow. -/
def RdC (o : Ob) (dep : Nat) : Prop := ∀ (pre suf : List UInt8) (F : Nat), Aft suf → o.text.length + 1 ≤ F →
  (nextV (pre ++ (o.text ++ suf)) pre.length).1 = 0 ∧ (nextV (pre ++ (o.text ++ suf)) pre.length).2.kind ≠ 0 ∧ (nextV (pre ++ (o.text ++ suf)) pre.length).2.kind ≠ 5 ∧
    objOf F (pre ++ (o.text ++ suf)) dep (nextV (pre ++ (o.text ++ suf)) pre.length).2 = (0, o.norm, pre.length + o.text.length)

theorem isTok_in (pre : List UInt8) {t suf : List UInt8} {kind f : Int} {s : List UInt8} {wh : Bool} {frm to : Nat} (h : nextV (t ++ suf) 0 = (0, ⟨kind, f, s, wh, frm, to⟩)) : IsTok (pre ++ (t ++ suf)) pre.length kind f s wh (pre.length + to) := isTok_app pre (t ++ suf) h

/-- A word that stands for an object. -/
theorem rd_word {o x : Ob} {dep : Nat} {t : List UInt8} (ht : o.text = t) (hx : o.norm = x) (hn : t ≠ []) (hb : ∀ b ∈ t, reg b = true) (h0 : numB (t.headD 0) = false) (hw : Cx.wordV t = (0, x)) : RdC o dep := by
  intro pre suf F ha hF
  rw [ht] at hF ⊢
  obtain ⟨c0, c1, c2, c3, c4, c5⟩ := isTok_in pre (next_word hn hb h0 ha.1)
  refine ⟨c0, by rw [c1]; decide, by rw [c1]; decide, ?_⟩
  obtain ⟨G, rfl⟩ : ∃ G, F = G + 1 := ⟨F - 1, by omega⟩
  rw [objOf]
  simp only [c1, c3, c5, hw, hx, if_true, if_false, show ¬ ((8 : Int) = 0) by decide, show ¬ ((8 : Int) = 1) by decide, show ¬ ((8 : Int) = 2) by decide, show ¬ ((8 : Int) = 3) by decide]
theorem aft_more {suf : List UInt8} (ha : tw reg suf = 0) : suf = [] ∨ ∃ b r, suf = b :: r ∧ reg b = false := by
  cases suf with
  | nil => exact .inl rfl
  | cons b r =>
    refine .inr ⟨b, r, rfl, ?_⟩
    cases h : reg b with
    | false => rfl
    | true => rw [tw, if_pos h] at ha; omega
theorem str_list (s : ByteArray) : str s.data.toList = s := by cases s; simp [str]

theorem rd_null (n f : Int) (s : ByteArray) (l : List Ob) (d : List Entr) (dep : Nat) : RdC (.mk 0 n f s l d) dep :=
  rd_word (t := nullT) (x := nul) (by rw [text_mk]; rfl) (by rw [norm_mk]; rfl) (by decide) (by decide) (by decide) rfl
theorem rd_bool (n f : Int) (s : ByteArray) (l : List Ob) (d : List Entr) (dep : Nat) (hn : n = 0 ∨ n = 1) : RdC (.mk 1 n f s l d) dep := by
  rcases hn with rfl | rfl
  · exact rd_word (t := falseT) (x := .mk 1 0 0 ⟨#[]⟩ [] []) (by rw [text_mk]; rfl) (by rw [norm_mk]; rfl) (by decide) (by decide) (by decide) rfl
  · exact rd_word (t := trueT) (x := .mk 1 1 0 ⟨#[]⟩ [] []) (by rw [text_mk]; rfl) (by rw [norm_mk]; rfl) (by decide) (by decide) (by decide) rfl
theorem rd_num (n f : Int) (s : ByteArray) (l : List Ob) (d : List Entr) (dep : Nat) (h : Fx.saneB f = true) (hn : n = 0 ∨ (n = 1 ∧ wholeF f = true)) : RdC (.mk 2 n f s l d) dep := by
  intro pre suf F ha hF
  have ht : (Ob.mk 2 n f s l d).text = numT n f := by rw [text_mk]; rfl
  rw [ht] at hF ⊢
  have hc := isTok_in pre (next_numT h hn ha.1)
  obtain ⟨c0, c1, c2, c3, c4, c5⟩ := hc
  refine ⟨c0, by rw [c1]; decide, by rw [c1]; decide, ?_⟩
  obtain ⟨G, rfl⟩ : ∃ G, F = G + 1 := ⟨F - 1, by omega⟩
  have hnum := number_num (pre := pre) (t := numT n f) ha c5
  rw [objOf, if_neg (by rw [c1]; decide), if_pos c1, hnum]
  have hv : numV (nextV (pre ++ (numT n f ++ suf)) pre.length).2 = (Ob.mk 2 n f s l d).norm := by
    unfold numV
    rw [c2, c4, norm_mk]
    rcases hn with rfl | ⟨rfl, -⟩ <;> rfl
  simp only [hv, c5]
theorem rd_name (n f : Int) (s : ByteArray) (l : List Ob) (d : List Entr) (dep : Nat) : RdC (.mk 3 n f s l d) dep := by
  intro pre suf F ha hF
  have ht : (Ob.mk 3 n f s l d).text = nameV s.data.toList := by rw [text_mk]; rfl
  rw [ht] at hF ⊢
  obtain ⟨c0, c1, c2, c3, c4, c5⟩ := isTok_in pre (Lx.next_name s.data.toList suf (aft_more ha.1))
  refine ⟨c0, by rw [c1]; decide, by rw [c1]; decide, ?_⟩
  obtain ⟨G, rfl⟩ : ∃ G, F = G + 1 := ⟨F - 1, by omega⟩
  rw [objOf]
  simp only [c1, c3, c5, norm_mk, str_list, if_true, if_false, show ¬ ((2 : Int) = 0) by decide, show ¬ ((2 : Int) = 1) by decide]
  simp
theorem rd_str (n f : Int) (s : ByteArray) (l : List Ob) (d : List Entr) (dep : Nat) : RdC (.mk 4 n f s l d) dep := by
  intro pre suf F ha hF
  have ht : (Ob.mk 4 n f s l d).text = quoteV s.data.toList := by rw [text_mk]; rfl
  rw [ht] at hF ⊢
  obtain ⟨c0, c1, c2, c3, c4, c5⟩ := isTok_in pre (next_quote s.data.toList suf)
  refine ⟨c0, by rw [c1]; decide, by rw [c1]; decide, ?_⟩
  obtain ⟨G, rfl⟩ : ∃ G, F = G + 1 := ⟨F - 1, by omega⟩
  rw [objOf]
  simp only [c1, c3, c5, norm_mk, str_list, if_true, if_false, show ¬ ((3 : Int) = 0) by decide, show ¬ ((3 : Int) = 1) by decide, show ¬ ((3 : Int) = 2) by decide]
  simp

/-! ### a Ref -/
theorem tw_blank (r : List UInt8) : tw reg (32 :: r) = 0 := rfl
theorem next_blank (r : List UInt8) : (nextV (32 :: r) 0).1 = (nextV r 0).1 ∧ ((nextV r 0).1 = 0 → (nextV (32 :: r) 0).2 = { (nextV r 0).2 with frm := (nextV r 0).2.frm + 1, to := (nextV r 0).2.to + 1 }) := by
  have h1 := next_white [] r
  have h2 := next_app [32] r
  simp only [List.nil_append, List.length_nil, Nat.zero_add, List.length_cons, List.singleton_append] at h1 h2
  rw [show ((0 : Nat) : Int) = 0 from rfl] at h1
  rw [h1]
  by_cases h : (nextV r 0).1 = 0
  · rw [show (((1 : Nat)) : Int) = ((0 + 1 : Nat) : Int) from rfl] at h2 ⊢
    rw [h2, if_pos h]
    exact ⟨h.symm, fun _ => rfl⟩
  · rw [show (((1 : Nat)) : Int) = ((0 + 1 : Nat) : Int) from rfl] at h2 ⊢
    rw [h2, if_neg h]
    exact ⟨rfl, fun h' => absurd h' h⟩
theorem wholeF_nn {f : Int} (h0 : 0 ≤ f) (hw : wholeF f = true) : ∃ x, 0 ≤ x ∧ f = 1000 * x := by
  have hz := (whole_iff f).1 hw
  unfold Fx.mag at hz
  rw [if_neg (by omega)] at hz
  exact ⟨f / 1000, by omega, by omega⟩
theorem rd_ref (n f : Int) (s : ByteArray) (l : List Ob) (d : List Entr) (dep : Nat) (h0 : 0 ≤ n) (h1 : n ≤ 2147483) (f0 : 0 ≤ f) (hf : Fx.saneB f = true) (hw : wholeF f = true) : RdC (.mk 7 n f s l d) dep := by
  intro pre suf F ha hF
  have hs : Fx.saneB (1000 * n) = true := by rw [Fx.sane_iff]; omega
  have ht : (Ob.mk 7 n f s l d).text = numT 1 (1000 * n) ++ (32 :: (numT 1 f ++ (32 :: [82]))) := by rw [text_mk, numT_whole, numT_whole, ← itoa_print h0 h1]; simp
  rw [ht] at hF ⊢
  obtain ⟨A, hA⟩ : ∃ A, A = numT 1 (1000 * n) := ⟨_, rfl⟩
  obtain ⟨B, hB⟩ : ∃ B, B = numT 1 f := ⟨_, rfl⟩
  have ta : nextV (A ++ (32 :: (B ++ (32 :: 82 :: suf)))) 0 = (0, ⟨1, 1000 * n, [], true, 0, A.length⟩) := by
    rw [hA]; exact next_numT hs (.inr ⟨rfl, wholeF_mul n⟩) (tw_blank _)
  have tb : nextV (B ++ (32 :: 82 :: suf)) 0 = (0, ⟨1, f, [], true, 0, B.length⟩) := by
    rw [hB]; exact next_numT hf (.inr ⟨rfl, hw⟩) (tw_blank _)
  have tr : nextV ([82] ++ suf) 0 = (0, ⟨8, 0, [82], false, 0, 1⟩) := next_word (by decide) (by decide) (by decide) ha.1
  rw [← hA, ← hB]
  rw [← hA, ← hB] at hF
  have hF1 : 1 ≤ F := by omega
  clear ht hA hB hF
  have e0 : pre ++ (A ++ (32 :: (B ++ (32 :: [82]))) ++ suf) = pre ++ (A ++ (32 :: (B ++ (32 :: 82 :: suf)))) := by simp
  have e1 : pre ++ (A ++ (32 :: (B ++ (32 :: 82 :: suf)))) = (pre ++ A) ++ (32 :: (B ++ (32 :: 82 :: suf))) := by simp
  have e2 : (pre ++ A) ++ (32 :: (B ++ (32 :: 82 :: suf))) = (pre ++ A ++ [32]) ++ (B ++ (32 :: 82 :: suf)) := by simp
  have e3 : (pre ++ A ++ [32]) ++ (B ++ (32 :: 82 :: suf)) = (pre ++ A ++ [32] ++ B) ++ (32 :: (82 :: suf)) := by simp
  have e4 : (pre ++ A ++ [32] ++ B) ++ (32 :: (82 :: suf)) = (pre ++ A ++ [32] ++ B ++ [32]) ++ ([82] ++ suf) := by simp
  have k1 := isTok_app pre _ ta
  have k2 := next_white (pre ++ A) (B ++ (32 :: 82 :: suf))
  have k3 := isTok_app (pre ++ A ++ [32]) _ tb
  have k4 := next_white (pre ++ A ++ [32] ++ B) (82 :: suf)
  have k5 := isTok_app (pre ++ A ++ [32] ++ B ++ [32]) _ tr
  rw [← e4, ← e3, ← e2, ← e1] at k5
  rw [← e3, ← e2, ← e1] at k4
  rw [← e2, ← e1] at k3
  rw [← e1] at k2
  rw [e0]
  simp only [List.length_append, List.length_cons, List.length_nil, Nat.zero_add] at k1 k2 k3 k4 k5
  obtain ⟨L, hL⟩ : ∃ L, L = pre ++ (A ++ (32 :: (B ++ (32 :: 82 :: suf)))) := ⟨_, rfl⟩
  rw [← hL] at k1 k2 k3 k4 k5 ⊢
  clear hL e0 e1 e2 e3 e4 ta tb tr
  obtain ⟨a0, a1, a2, a3, a4, a5⟩ := k1
  obtain ⟨b0, b1, b2, b3, b4, b5⟩ := k3
  obtain ⟨r0, r1, r2, r3, r4, r5⟩ := k5
  refine ⟨a0, by rw [a1]; decide, by rw [a1]; decide, ?_⟩
  obtain ⟨G, rfl⟩ : ∃ G, F = G + 1 := ⟨F - 1, by omega⟩
  have hwA : wholeT (nextV L (pre.length : Int)).2 = true := by unfold wholeT; rw [a1, a2, a4]; simp; omega
  have hwB : wholeT (tokOf (nextV L ((nextV L (pre.length : Int)).2.to : Int))) = true := by
    rw [a5, k2, tokOf_ok b0]; unfold wholeT; rw [b1, b2, b4]; simpa using f0
  have hto : (tokOf (nextV L ((nextV L (pre.length : Int)).2.to : Int))).to = pre.length + A.length + 1 + B.length := by rw [a5, k2, tokOf_ok b0, b5]
  have hR : isW (tokOf (nextV L ((tokOf (nextV L ((nextV L (pre.length : Int)).2.to : Int))).to : Int))) [82] = true := by
    rw [hto, k4, tokOf_ok r0]; unfold isW; rw [r1, r3]; rfl
  have hend : (tokOf (nextV L ((tokOf (nextV L ((nextV L (pre.length : Int)).2.to : Int))).to : Int))).to = pre.length + A.length + 1 + B.length + 1 + 1 := by
    rw [hto, k4, tokOf_ok r0, r5]
  have hff : (tokOf (nextV L ((nextV L (pre.length : Int)).2.to : Int))).f = f := by rw [a5, k2, tokOf_ok b0, b2]
  have hnv : numberV L (nextV L (pre.length : Int)).2 = (.mk 7 n f ⟨#[]⟩ [] [], pre.length + A.length + 1 + B.length + 1 + 1) := by
    unfold numberV
    rw [if_pos hwA, if_pos hwB, if_pos hR, hend, hff, a2, show (1000 * n).tdiv 1000 = n by rw [Int.tdiv_eq_ediv_of_nonneg (by omega)]; omega]
  rw [objOf, if_neg (by rw [a1]; decide), if_pos a1, hnv, norm_mk]
  simp
  omega

/-! ### what stands behind an object within a list -/
theorem aft_blank {r : List UInt8} {T : Tok} (h : nextV r 0 = (0, T)) (hT : T.to ≤ r.length) (h1 : isW T [82] = false) (h2 : wholeT T = true → isW (tokOf (nextV r (T.to : Int))) [82] = false) : Aft (32 :: r) := by
  obtain ⟨b1, b2⟩ := next_blank r
  have h0 : (nextV r 0).1 = 0 := by rw [h]
  have e : tokOf (nextV (32 :: r) 0) = { T with frm := T.frm + 1, to := T.to + 1 } := by
    rw [tokOf_ok (b1.trans h0), b2 h0, h]
  refine ⟨rfl, by rw [e]; exact h1, fun hw => ?_⟩
  rw [e] at hw ⊢
  have := isW_far [32] r T.to hT [82]
  simp only [List.singleton_append, List.length_cons, List.length_nil, Nat.zero_add] at this
  rw [show (({ T with frm := T.frm + 1, to := T.to + 1 } : Tok).to : Int) = ((1 + T.to : Nat) : Int) by simp; omega, this]
  exact h2 hw
theorem kind_noW {T : Tok} (h : T.kind ≠ 8) (s : List UInt8) : isW T s = false := by
  unfold isW; rw [show (T.kind == 8) = false by simpa using h]; rfl
theorem kind_noN {T : Tok} (h : T.kind ≠ 1) : wholeT T = false := by
  unfold wholeT; rw [show (T.kind == 1) = false by simpa using h]; rfl
/-- The next token right behind a text. -/
theorem isW_behind (t r : List UInt8) (s : List UInt8) : isW (tokOf (nextV (t ++ r) (t.length : Int))) s = isW (tokOf (nextV r 0)) s := isW_app t r s
theorem aft_name (key r : List UInt8) : Aft (32 :: (nameV key ++ (32 :: r))) := by
  have h := Lx.next_name key (32 :: r) (.inr ⟨32, r, rfl, rfl⟩)
  exact aft_blank h (by simp) (kind_noW (by simp) _) (fun hw => by rw [kind_noN (by simp)] at hw; cases hw)
theorem word_aft {t suf : List UInt8} (hn : t ≠ []) (hb : ∀ b ∈ t, reg b = true) (h0 : numB (t.headD 0) = false) (h82 : t ≠ [82]) (hs : Aft suf) : Aft (32 :: (t ++ suf)) := by
  refine aft_blank (next_word hn hb h0 hs.1) (by simp) ?_ (fun hw => by rw [kind_noN (by simp)] at hw; cases hw)
  unfold isW; simp [h82]
/-- What an object is that may be. -/
inductive Fact (k n f : Int) (l : List Ob) (d : List Entr) (dep : Nat) : Prop
  | flat (h : k = 0 ∨ k = 3 ∨ k = 4)
  | bool (h : k = 1) (hn : n = 0 ∨ n = 1)
  | num (h : k = 2) (hf : Fx.saneB f = true) (hn : n = 0 ∨ (n = 1 ∧ wholeF f = true))
  | arr (h : k = 5) (hl : l.length ≤ 1024) (hd : dep < 64)
  | ref (h : k = 7) (h0 : 0 ≤ n) (h1 : n ≤ 2147483) (f0 : 0 ≤ f) (hf : Fx.saneB f = true) (hw : wholeF f = true)
  | dict (h : k = 6) (hs : senseD [] d = true) (hl : d.length ≤ 1024) (hd : dep < 64)
  | stream (h : k = 8) (hs : senseD [] d = true) (hl : d.length ≤ 1024) (hd : dep = 0)
theorem fact_of {k n f : Int} {s : ByteArray} {l : List Ob} {d : List Entr} {dep : Nat} (h : own (.mk k n f s l d) dep = 0) : Fact k n f l d dep := by
  obtain ⟨S, hS⟩ : ∃ S, S = (Ob.mk k n f s l d).sense := ⟨_, rfl⟩
  obtain ⟨R, hR⟩ : ∃ R, R = (Ob.mk k n f s l d).inRange := ⟨_, rfl⟩
  obtain ⟨M, hM⟩ : ∃ M, M = (Ob.mk k n f s l d).many := ⟨_, rfl⟩
  obtain ⟨N, hN⟩ : ∃ N, N = (Ob.mk k n f s l d).nest := ⟨_, rfl⟩
  have h1 : (if !S || (k == 8 && decide (0 < dep)) then (1 : Int) else if !R then 2 else if M then 6 else if N && decide (64 ≤ dep) then 5 else 0) = 0 := by rw [hS, hR, hM, hN]; exact h
  have hs1 : S = if k = 0 ∨ k = 3 ∨ k = 4 ∨ k = 5 then true else if k = 1 then n == 0 || n == 1 else if k = 2 then n == 0 || (n == 1 && wholeF f) else if k = 7 then decide (0 ≤ n) && (decide (0 ≤ f) && wholeF f) else if k = 6 ∨ k = 8 then senseD [] d else false := hS
  have hr1 : R = if k = 2 then Fx.saneB f else if k = 7 then Fx.saneB f && decide (n ≤ 2147483) else true := hR
  have hm1 : M = ((k == 5 && decide (1024 < l.length)) || ((k == 6 || k == 8) && decide (1024 < d.length))) := hM
  have hn1 : N = (k == 5 || (k == 6 || k == 8)) := hN
  clear hS hR hM hN h
  by_cases c1 : (!S || (k == 8 && decide (0 < dep))) = true
  · rw [if_pos c1] at h1; exact absurd h1 (by decide)
  rw [if_neg c1] at h1
  by_cases c2 : (!R) = true
  · rw [if_pos c2] at h1; exact absurd h1 (by decide)
  rw [if_neg c2] at h1
  by_cases c3 : M = true
  · rw [if_pos c3] at h1; exact absurd h1 (by decide)
  rw [if_neg c3] at h1
  by_cases c4 : (N && decide (64 ≤ dep)) = true
  · rw [if_pos c4] at h1; exact absurd h1 (by decide)
  clear h1
  have S1 : S = true := by cases S <;> simp at c1 ⊢
  have R1 : R = true := by cases R <;> simp at c2 ⊢
  rw [S1] at hs1
  rw [R1] at hr1
  rw [hm1] at c3
  rw [hn1] at c4
  have c5 : k = 8 → dep = 0 := fun e => by subst e; simp [S1] at c1; exact c1
  by_cases k0 : k = 0 ∨ k = 3 ∨ k = 4
  · exact .flat k0
  by_cases k5 : k = 5
  · subst k5; simp at c3 c4; exact .arr rfl c3 c4
  rw [if_neg (by omega)] at hs1
  by_cases k1 : k = 1
  · rw [if_pos k1] at hs1; exact .bool k1 (by simpa using hs1)
  rw [if_neg k1] at hs1
  by_cases k2 : k = 2
  · rw [if_pos k2] at hs1 hr1; exact .num k2 hr1.symm (by simpa using hs1)
  rw [if_neg k2] at hs1 hr1
  by_cases k7 : k = 7
  · rw [if_pos k7] at hs1 hr1
    have a : 0 ≤ n ∧ 0 ≤ f ∧ wholeF f = true := by simpa using hs1
    have b : Fx.saneB f = true ∧ n ≤ 2147483 := by simpa using hr1
    exact .ref k7 a.1 b.2 a.2.1 b.1 a.2.2
  rw [if_neg k7] at hs1
  by_cases k6 : k = 6
  · subst k6; simp at c3 c4 hs1; exact .dict rfl hs1 c3 c4
  by_cases k8 : k = 8
  · subst k8; simp at c3 c4 hs1; exact .stream rfl hs1 c3 (c5 rfl)
  · rw [if_neg (by omega)] at hs1; cases hs1

theorem text5 (n f : Int) (s : ByteArray) (l : List Ob) (d : List Entr) : (Ob.mk 5 n f s l d).text = 91 :: (textL false l ++ [93]) := by rw [text_mk]; rfl
theorem text6 (n f : Int) (s : ByteArray) (l : List Ob) (d : List Entr) : (Ob.mk 6 n f s l d).text = [60, 60] ++ textD false d ++ [62, 62] := by rw [text_mk]; rfl
theorem text7 (n f : Int) (s : ByteArray) (l : List Ob) (d : List Entr) (h0 : 0 ≤ n) (h1 : n ≤ 2147483) : (Ob.mk 7 n f s l d).text = numT 1 (1000 * n) ++ (32 :: (numT 1 f ++ [32, 82])) := by rw [text_mk, numT_whole, numT_whole, ← itoa_print h0 h1]; simp
theorem numT_ne {n f : Int} (h : Fx.saneB f = true) : 1 ≤ (numT n f).length := by
  have := (print_num h).1
  have h2 : 1 ≤ (Fx.printL f).length := by
    cases e : Fx.printL f with
    | nil => exact absurd e this
    | cons b r => simp
  unfold numT; rw [List.length_append]; omega
/-- Ahead of an object that may be, behind a blank. -/
theorem aft_text (y : Ob) (dep : Nat) (hy : own y dep = 0) (h8 : y.k ≠ 8) {suf : List UInt8} (hs : Aft suf) : Aft (32 :: (y.text ++ suf)) := by
  obtain ⟨k, n, f, s, l, d⟩ := y
  cases fact_of hy with
  | flat h =>
    rcases h with rfl | rfl | rfl
    · rw [show (Ob.mk 0 n f s l d).text = nullT by rw [text_mk]; rfl]; exact word_aft (by decide) (by decide) (by decide) (by decide) hs
    · rw [show (Ob.mk 3 n f s l d).text = nameV s.data.toList by rw [text_mk]; rfl]
      exact aft_blank (Lx.next_name _ suf (aft_more hs.1)) (by simp) (kind_noW (by simp) _) (fun hw => by rw [kind_noN (by simp)] at hw; cases hw)
    · rw [show (Ob.mk 4 n f s l d).text = quoteV s.data.toList by rw [text_mk]; rfl]
      exact aft_blank (next_quote _ suf) (by simp) (kind_noW (by simp) _) (fun hw => by rw [kind_noN (by simp)] at hw; cases hw)
  | bool h hn =>
    subst h
    rcases hn with rfl | rfl
    · rw [show (Ob.mk 1 0 f s l d).text = falseT by rw [text_mk]; rfl]; exact word_aft (by decide) (by decide) (by decide) (by decide) hs
    · rw [show (Ob.mk 1 1 f s l d).text = trueT by rw [text_mk]; rfl]; exact word_aft (by decide) (by decide) (by decide) (by decide) hs
  | num h hf hn =>
    subst h
    rw [show (Ob.mk 2 n f s l d).text = numT n f by rw [text_mk]; rfl]
    refine aft_blank (next_numT hf hn hs.1) (by simp) (kind_noW (by simp) _) (fun _ => ?_)
    simp only []
    rw [isW_behind]; exact hs.2.1
  | arr h hl hd =>
    subst h
    rw [text5]
    exact aft_blank (next_arr _) (by simp) (kind_noW (by simp) _) (fun hw => by rw [kind_noN (by simp)] at hw; cases hw)
  | dict h hs' hl hd =>
    subst h
    rw [text6]
    exact aft_blank (next_dict _) (by simp) (kind_noW (by simp) _) (fun hw => by rw [kind_noN (by simp)] at hw; cases hw)
  | stream h => exact absurd h h8
  | ref h h0 h1 f0 hf hw =>
    subst h
    have hsn : Fx.saneB (1000 * n) = true := by rw [Fx.sane_iff]; omega
    have e : (Ob.mk 7 n f s l d).text ++ suf = numT 1 (1000 * n) ++ (32 :: (numT 1 f ++ (32 :: 82 :: suf))) := by rw [text7 n f s l d h0 h1]; simp
    rw [e]
    have ht := next_numT (n := 1) (suf := 32 :: (numT 1 f ++ (32 :: 82 :: suf))) hsn (.inr ⟨rfl, wholeF_mul n⟩) (tw_blank _)
    refine aft_blank ht (by simp) (kind_noW (by simp) _) (fun _ => ?_)
    simp only []
    rw [isW_behind]
    have ht2 := next_numT (n := 1) (suf := 32 :: 82 :: suf) hf (.inr ⟨rfl, hw⟩) (tw_blank _)
    obtain ⟨b1, b2⟩ := next_blank (numT 1 f ++ (32 :: 82 :: suf))
    have h0 : (nextV (numT 1 f ++ (32 :: 82 :: suf)) 0).1 = 0 := by rw [ht2]
    rw [tokOf_ok (b1.trans h0), b2 h0, ht2]
    exact kind_noW (by simp) _
theorem text_ne (o : Ob) (dep : Nat) (hy : own o dep = 0) (h8 : o.k ≠ 8) : 1 ≤ o.text.length := by
  obtain ⟨k, n, f, s, l, d⟩ := o
  cases fact_of hy with
  | flat h =>
    rcases h with rfl | rfl | rfl
    · rw [show (Ob.mk 0 n f s l d).text = nullT by rw [text_mk]; rfl]; decide
    · rw [show (Ob.mk 3 n f s l d).text = nameV s.data.toList by rw [text_mk]; rfl]; simp [nameV]
    · rw [show (Ob.mk 4 n f s l d).text = quoteV s.data.toList by rw [text_mk]; rfl]; simp [quoteV]
  | bool h hn =>
    subst h
    rcases hn with rfl | rfl
    · rw [show (Ob.mk 1 0 f s l d).text = falseT by rw [text_mk]; rfl]; decide
    · rw [show (Ob.mk 1 1 f s l d).text = trueT by rw [text_mk]; rfl]; decide
  | num h hf hn => subst h; rw [show (Ob.mk 2 n f s l d).text = numT n f by rw [text_mk]; rfl]; exact numT_ne hf
  | arr h hl hd => subst h; rw [text5]; simp
  | dict h hs' hl hd => subst h; rw [text6]; simp
  | stream h => exact absurd h h8
  | ref h h0 h1 f0 hf hw => subst h; rw [text7 n f s l d h0 h1]; simp; omega

/-! ### lists -/
theorem upO_step (F : Nat) {l : List UInt8} {dep p to : Nat} {x : Ob} {acc : List Ob} (h0 : (nextV l p).1 = 0) (h1 : (nextV l p).2.kind ≠ 0) (h2 : (nextV l p).2.kind ≠ 5) (hl : acc.length < 1024) (ho : objOf F l dep (nextV l p).2 = (0, x, to)) : upO (F + 1) l dep acc p = upO F l dep (acc ++ [x]) to := by
  rw [upO, if_neg (by rw [h0]; decide), if_neg h2, if_neg h1, if_neg (by omega), ho, if_pos rfl]
theorem textL_blank (b : Bool) (x : Ob) (r : List Ob) : textL b (x :: r) = (if b then [32] else []) ++ (x.text ++ textL true r) := by rw [textL_cons, List.append_assoc]
theorem aft_list (dep : Nat) (suf : List UInt8) : ∀ (r : List Ob), (∀ x ∈ r, own x dep = 0 ∧ x.k ≠ 8) → Aft (textL true r ++ (93 :: suf))
  | [], _ => by rw [textL_nil]; exact aft_cls suf
  | y :: r, h => by
    rw [textL_blank, if_pos rfl, List.append_assoc, List.append_assoc]
    exact aft_text y dep (h y List.mem_cons_self).1 (h y List.mem_cons_self).2 (aft_list dep suf r (fun x hx => h x (List.mem_cons_of_mem _ hx)))
theorem upO_list (dep : Nat) : ∀ (xs : List Ob) (b : Bool) (pre suf : List UInt8) (acc : List Ob) (F : Nat), (∀ x ∈ xs, RdC x dep ∧ own x dep = 0 ∧ x.k ≠ 8) → acc.length + xs.length ≤ 1024 → (textL b xs).length + 2 ≤ F →
    upO F (pre ++ (textL b xs ++ (93 :: suf))) dep acc pre.length = (0, acc ++ xs.map Ob.norm, pre.length + (textL b xs).length + 1)
  | [], b, pre, suf, acc, F, _, _, hF => by
    obtain ⟨G, rfl⟩ : ∃ G, F = G + 1 := ⟨F - 1, by omega⟩
    rw [textL_nil, List.nil_append]
    have h := isTok_app pre (93 :: suf) (next_cls suf)
    rw [upO_end G dep acc h]; simp
  | x :: r, b, pre, suf, acc, F, hx, hl, hF => by
    obtain ⟨hr, hy, h8⟩ := hx x List.mem_cons_self
    have hlen := text_ne x dep hy h8
    rw [textL_blank] at hF ⊢
    have ha : Aft (textL true r ++ (93 :: suf)) := aft_list dep suf r (fun y hy => (hx y (List.mem_cons_of_mem _ hy)).2)
    obtain ⟨B, hB⟩ : ∃ B : List UInt8, B = if b then [32] else [] := ⟨_, rfl⟩
    rw [← hB] at hF ⊢
    simp only [List.length_append] at hF
    obtain ⟨G, rfl⟩ : ∃ G, F = G + 1 := ⟨F - 1, by omega⟩
    have e : pre ++ (B ++ (x.text ++ textL true r) ++ (93 :: suf)) = (pre ++ B) ++ (x.text ++ (textL true r ++ (93 :: suf))) := by simp
    have hnx : nextV (pre ++ (B ++ (x.text ++ textL true r) ++ (93 :: suf))) (pre.length : Int) = nextV (pre ++ (B ++ (x.text ++ textL true r) ++ (93 :: suf))) ((pre ++ B).length : Int) := by
      cases b with
      | false => simp only [Bool.false_eq_true, if_false] at hB; subst hB; simp
      | true =>
        simp only [if_true] at hB; subst hB
        have := next_white pre (x.text ++ (textL true r ++ (93 :: suf)))
        rw [show pre ++ ([32] ++ (x.text ++ textL true r) ++ (93 :: suf)) = pre ++ 32 :: (x.text ++ (textL true r ++ (93 :: suf))) by simp, this]; simp
    obtain ⟨r0, r1, r2, r3⟩ := hr (pre ++ B) (textL true r ++ (93 :: suf)) G ha (by omega)
    rw [← e] at r0 r1 r2 r3
    rw [← hnx] at r0 r1 r2 r3
    rw [upO_step G r0 r1 r2 (by simp only [List.length_cons] at hl; omega) r3]
    have ih := upO_list dep r true (pre ++ B ++ x.text) suf (acc ++ [x.norm]) G (fun y hy => hx y (List.mem_cons_of_mem _ hy)) (by simp only [List.length_append, List.length_cons, List.length_nil] at hl ⊢; omega) (by omega)
    have e2 : pre ++ (B ++ (x.text ++ textL true r) ++ (93 :: suf)) = (pre ++ B ++ x.text) ++ (textL true r ++ (93 :: suf)) := by simp
    rw [← e2] at ih
    rw [show (pre ++ B ++ x.text).length = (pre ++ B).length + x.text.length by rw [List.length_append]] at ih
    rw [ih]
    simp
    omega

theorem upE_step (F : Nat) {l : List UInt8} {dep p p1 to : Nat} {f : Int} {s : List UInt8} {wh : Bool} {x : Ob} {acc : List Entr} (h : IsTok l p 2 f s wh p1) (h0 : (nextV l p1).1 = 0) (hl : acc.length < 1024) (ho : objOf F l dep (nextV l p1).2 = (0, x, to)) : upE (F + 2) l dep acc p = upE (F + 1) l dep (acc ++ [(str s, x)]) to := by
  have he := ent_one (dep := dep) F h
  rw [if_neg (by rw [h0]; decide), ho, if_pos rfl] at he
  obtain ⟨c0, c1, -, c3, -, c5⟩ := h
  rw [upE, if_neg (by rw [c0]; decide), if_neg (by rw [c1]; decide), if_neg (by rw [c1]; decide), if_neg (by omega), he, if_pos rfl]
theorem textD_blank (b : Bool) (e : Entr) (r : List Entr) : textD b (e :: r) = (if b then [32] else []) ++ (nameV e.1.data.toList ++ (32 :: (e.2.text ++ textD true r))) := by rw [textD_cons]; simp
theorem aft_dict (suf : List UInt8) (r : List Entr) : Aft (textD true r ++ (62 :: 62 :: suf)) := by
  cases r with
  | nil => rw [textD_nil]; exact aft_fin suf
  | cons e r =>
    rw [textD_blank, if_pos rfl]
    have := aft_name e.1.data.toList (e.2.text ++ (textD true r ++ (62 :: 62 :: suf)))
    simpa using this
theorem upE_list (dep : Nat) : ∀ (xs : List Entr) (b : Bool) (pre suf : List UInt8) (acc : List Entr) (F : Nat), (∀ e ∈ xs, RdC e.2 dep ∧ own e.2 dep = 0 ∧ e.2.k ≠ 8) → acc.length + xs.length ≤ 1024 → (textD b xs).length + 2 ≤ F →
    upE F (pre ++ (textD b xs ++ (62 :: 62 :: suf))) dep acc pre.length = (0, acc ++ xs.map (fun e => (e.1, e.2.norm)), pre.length + (textD b xs).length + 2)
  | [], b, pre, suf, acc, F, _, _, hF => by
    obtain ⟨G, rfl⟩ : ∃ G, F = G + 1 := ⟨F - 1, by omega⟩
    rw [textD_nil, List.nil_append]
    have h := isTok_app pre (62 :: 62 :: suf) (next_fin suf)
    rw [upE_end G dep acc h]; simp
  | x :: r, b, pre, suf, acc, F, hx, hl, hF => by
    obtain ⟨hr, hy, h8⟩ := hx x List.mem_cons_self
    have hlen := text_ne x.2 dep hy h8
    rw [textD_blank] at hF ⊢
    have ha : Aft (textD true r ++ (62 :: 62 :: suf)) := aft_dict suf r
    obtain ⟨B, hB⟩ : ∃ B : List UInt8, B = if b then [32] else [] := ⟨_, rfl⟩
    obtain ⟨K, hK⟩ : ∃ K : List UInt8, K = nameV x.1.data.toList := ⟨_, rfl⟩
    have hK1 : 1 ≤ K.length := by rw [hK]; simp [nameV]
    rw [← hB, ← hK] at hF ⊢
    simp only [List.length_append, List.length_cons] at hF
    obtain ⟨G, rfl⟩ : ∃ G, F = G + 2 := ⟨F - 2, by omega⟩
    obtain ⟨L, hL⟩ : ∃ L, L = pre ++ (B ++ (K ++ (32 :: (x.2.text ++ textD true r))) ++ (62 :: 62 :: suf)) := ⟨_, rfl⟩
    have e1 : L = (pre ++ B) ++ (K ++ (32 :: (x.2.text ++ (textD true r ++ (62 :: 62 :: suf))))) := by rw [hL]; simp
    have e2 : L = (pre ++ B ++ K) ++ (32 :: (x.2.text ++ (textD true r ++ (62 :: 62 :: suf)))) := by rw [hL]; simp
    have e3 : L = (pre ++ B ++ K ++ [32]) ++ (x.2.text ++ (textD true r ++ (62 :: 62 :: suf))) := by rw [hL]; simp
    have e4 : L = (pre ++ B ++ K ++ [32] ++ x.2.text) ++ (textD true r ++ (62 :: 62 :: suf)) := by rw [hL]; simp
    have hnx : nextV L (pre.length : Int) = nextV L ((pre ++ B).length : Int) := by
      cases b with
      | false => simp only [Bool.false_eq_true, if_false] at hB; subst hB; simp
      | true =>
        simp only [if_true] at hB; subst hB
        have := next_white pre (K ++ (32 :: (x.2.text ++ (textD true r ++ (62 :: 62 :: suf)))))
        rw [show L = pre ++ 32 :: (K ++ (32 :: (x.2.text ++ (textD true r ++ (62 :: 62 :: suf))))) by rw [hL]; simp, this]; simp
    have htk : IsTok L (pre ++ B).length 2 0 x.1.data.toList false ((pre ++ B).length + K.length) := by
      have h := Lx.next_name x.1.data.toList (32 :: (x.2.text ++ (textD true r ++ (62 :: 62 :: suf)))) (.inr ⟨32, _, rfl, rfl⟩)
      rw [← hK] at h
      rw [e1]
      exact isTok_app (pre ++ B) _ h
    have htk2 : IsTok L pre.length 2 0 x.1.data.toList false ((pre ++ B).length + K.length) := by unfold IsTok at htk ⊢; rw [hnx]; exact htk
    have hw : nextV L (((pre ++ B).length + K.length : Nat) : Int) = nextV L ((pre ++ B ++ K ++ [32]).length : Int) := by
      have := next_white (pre ++ B ++ K) (x.2.text ++ (textD true r ++ (62 :: 62 :: suf)))
      rw [← e2] at this
      have hq : (pre ++ B).length + K.length = (pre ++ B ++ K).length := by simp only [List.length_append]
      have hq2 : (pre ++ B ++ K ++ [(32 : UInt8)]).length = (pre ++ B ++ K).length + 1 := by simp only [List.length_append, List.length_cons, List.length_nil]
      rw [hq, this, hq2]
    obtain ⟨r0, r1, r2, r3⟩ := hr (pre ++ B ++ K ++ [32]) (textD true r ++ (62 :: 62 :: suf)) G ha (by omega)
    rw [← e3] at r0 r1 r2 r3
    rw [← hw] at r0 r1 r2 r3
    rw [← hL, upE_step G htk2 r0 (by simp only [List.length_cons] at hl; omega) r3]
    have ih := upE_list dep r true (pre ++ B ++ K ++ [32] ++ x.2.text) suf (acc ++ [(str x.1.data.toList, x.2.norm)]) (G + 1) (fun y hy => hx y (List.mem_cons_of_mem _ hy)) (by simp only [List.length_append, List.length_cons, List.length_nil] at hl ⊢; omega) (by omega)
    rw [← e4] at ih
    have hq3 : (pre ++ B ++ K ++ [(32 : UInt8)] ++ x.2.text).length = (pre ++ B ++ K ++ [(32 : UInt8)]).length + x.2.text.length := List.length_append
    rw [hq3] at ih
    rw [ih, str_list]
    simp
    omega

/-! ### entries that are settled already -/
theorem setGo_new (key : ByteArray) (v : Ob) : ∀ (d : List Entr), hasK d key = false → setGo key v false d = d ++ [(key, v)]
  | [], _ => by rw [setGo]; rfl
  | e :: r, h => by
    rw [hasK, Bool.or_eq_false_iff] at h
    rw [setGo, if_neg (by rw [h.1]; simp), setGo_new key v r h.2]; rfl
theorem settle_from : ∀ (d seen : List Entr), senseD seen d = true → d.foldl (fun a e => setD a e.1 e.2) seen = seen ++ d
  | [], seen, _ => by simp
  | e :: r, seen, h => by
    rw [senseD] at h
    by_cases c : (hasK seen e.1 || e.2.k == 0) = true
    · rw [if_pos c] at h; cases h
    · rw [if_neg c] at h
      simp only [Bool.or_eq_true, not_or, Bool.not_eq_true] at c
      have hk : (e.2.k == 0) = false := c.2
      rw [List.foldl_cons, show setD seen e.1 e.2 = seen ++ [e] by unfold setD; rw [hk]; exact setGo_new e.1 e.2 seen c.1, settle_from r _ h]; simp
theorem settle_same {d : List Entr} (h : senseD [] d = true) : settle d = d := by
  unfold settle; rw [settle_from d [] h]; rfl
theorem hasK_norm (key : ByteArray) : ∀ d : List Entr, hasK (d.map (fun e => (e.1, e.2.norm))) key = hasK d key
  | [] => rfl
  | e :: r => by rw [List.map_cons, hasK, hasK, hasK_norm key r]
theorem senseD_norm : ∀ (d seen : List Entr), senseD (seen.map (fun e => (e.1, e.2.norm))) (d.map (fun e => (e.1, e.2.norm))) = senseD seen d
  | [], seen => by rw [List.map_nil, senseD, senseD]
  | e :: r, seen => by
    rw [List.map_cons, senseD, senseD, hasK_norm, norm_k]
    have := senseD_norm r (seen ++ [e])
    rw [List.map_append, List.map_cons, List.map_nil] at this
    rw [this]

/-! ### any object -/
theorem saneL_all : ∀ (l : List Ob) (dep : Nat), saneL l dep = 0 → ∀ x ∈ l, x.sane dep = 0
  | [], _, _, _, hx => by cases hx
  | y :: r, dep, h, x, hx => by
    rw [saneL_cons] at h
    by_cases c : y.sane dep ≠ 0
    · rw [if_pos c] at h; exact absurd h c
    · rw [if_neg c] at h
      rcases List.mem_cons.1 hx with rfl | hx
      · simpa using c
      · exact saneL_all r dep h x hx
theorem saneE_all : ∀ (l : List Entr) (dep : Nat), saneE l dep = 0 → ∀ x ∈ l, x.2.sane dep = 0
  | [], _, _, _, hx => by cases hx
  | y :: r, dep, h, x, hx => by
    rw [saneE_cons] at h
    by_cases c : y.2.sane dep ≠ 0
    · rw [if_pos c] at h; exact absurd h c
    · rw [if_neg c] at h
      rcases List.mem_cons.1 hx with rfl | hx
      · simpa using c
      · exact saneE_all r dep h x hx
theorem sane_own {o : Ob} {dep : Nat} (h : o.sane dep = 0) : own o dep = 0 := by
  rw [sane_eq] at h
  by_cases c : own o dep ≠ 0
  · rw [if_pos c] at h; exact h
  · simpa using c
/-- Deeper down there is no Stream. -/
theorem sane_no8 {o : Ob} {dep : Nat} (h : o.sane (dep + 1) = 0) : o.k ≠ 8 := by
  obtain ⟨k, n, f, s, l, d⟩ := o
  cases fact_of (sane_own h) with
  | stream _ _ _ hd => omega
  | flat h => simp only [Ob.k]; omega
  | bool h => simp only [Ob.k]; omega
  | num h => simp only [Ob.k]; omega
  | arr h => simp only [Ob.k]; omega
  | ref h => simp only [Ob.k]; omega
  | dict h => simp only [Ob.k]; omega
theorem rd_all (N : Nat) : ∀ (o : Ob), SizeOf.sizeOf o ≤ N → ∀ dep, o.sane dep = 0 → o.k ≠ 8 → RdC o dep := by
  induction N with
  | zero => intro o ho; exfalso; cases o; simp only [Ob.mk.sizeOf_spec] at ho; omega
  | succ N ih =>
    intro o ho dep hs h8
    have hown := sane_own hs
    have hl := fun x (hx : x ∈ o.l) => sizeOf_l hx
    have hd := fun e (he : e ∈ o.d) => sizeOf_d he
    obtain ⟨k, n, f, s, l, d⟩ := o
    have hse := sane_mk k n f s l d dep
    rw [if_neg (by rw [hown]; decide), hs] at hse
    simp only [Ob.k, Ob.l, Ob.d] at hl hd h8
    cases fact_of hown with
    | flat h =>
      rcases h with rfl | rfl | rfl
      · exact rd_null n f s l d dep
      · exact rd_name n f s l d dep
      · exact rd_str n f s l d dep
    | bool h hn => subst h; exact rd_bool n f s l d dep hn
    | num h hf hn => subst h; exact rd_num n f s l d dep hf hn
    | ref h h0 h1 f0 hf hw => subst h; exact rd_ref n f s l d dep h0 h1 f0 hf hw
    | stream h => exact absurd h h8
    | arr h hln hdp =>
      subst h
      rw [if_pos rfl] at hse
      have hx : ∀ x ∈ l, RdC x (dep + 1) ∧ own x (dep + 1) = 0 ∧ x.k ≠ 8 := fun x hx => by
        have h1 := saneL_all l _ hse.symm x hx
        exact ⟨ih x (by have := hl x hx; omega) _ h1 (sane_no8 h1), sane_own h1, sane_no8 h1⟩
      intro pre suf F ha hF
      rw [text5] at hF ⊢
      have e0 : pre ++ (91 :: (textL false l ++ [93]) ++ suf) = pre ++ (91 :: (textL false l ++ (93 :: suf))) := by simp
      have e1 : pre ++ (91 :: (textL false l ++ (93 :: suf))) = (pre ++ [91]) ++ (textL false l ++ (93 :: suf)) := by simp
      rw [e0]
      obtain ⟨c0, c1, c2, c3, c4, c5⟩ := isTok_app pre (91 :: (textL false l ++ (93 :: suf))) (next_arr _)
      refine ⟨c0, by rw [c1]; decide, by rw [c1]; decide, ?_⟩
      simp only [List.length_cons, List.length_append, List.length_nil] at hF
      obtain ⟨G, rfl⟩ : ∃ G, F = G + 1 := ⟨F - 1, by omega⟩
      have hu := upO_list (dep + 1) l false (pre ++ [91]) suf [] G hx (by simpa using hln) (by omega)
      have hq : (pre ++ [(91 : UInt8)]).length = pre.length + 1 := by simp only [List.length_append, List.length_cons, List.length_nil]
      rw [← e1, List.nil_append, hq] at hu
      rw [obj_arr _ _ _ _ c1, if_neg (by omega), c5, hu, if_pos rfl, norm_mk, normL_map]
      simp
      omega
    | dict h hsd hln hdp =>
      subst h
      rw [if_neg (by decide), if_pos (.inl rfl)] at hse
      have hx : ∀ x ∈ d, RdC x.2 (dep + 1) ∧ own x.2 (dep + 1) = 0 ∧ x.2.k ≠ 8 := fun x hx => by
        have h1 := saneE_all d _ hse.symm x hx
        exact ⟨ih x.2 (by have := hd x hx; omega) _ h1 (sane_no8 h1), sane_own h1, sane_no8 h1⟩
      intro pre suf F ha hF
      rw [text6] at hF ⊢
      have e0 : pre ++ ([60, 60] ++ textD false d ++ [62, 62] ++ suf) = pre ++ (60 :: 60 :: (textD false d ++ (62 :: 62 :: suf))) := by simp
      have e1 : pre ++ (60 :: 60 :: (textD false d ++ (62 :: 62 :: suf))) = (pre ++ [60, 60]) ++ (textD false d ++ (62 :: 62 :: suf)) := by simp
      rw [e0]
      obtain ⟨c0, c1, c2, c3, c4, c5⟩ := isTok_app pre (60 :: 60 :: (textD false d ++ (62 :: 62 :: suf))) (next_dict _)
      refine ⟨c0, by rw [c1]; decide, by rw [c1]; decide, ?_⟩
      simp only [List.length_cons, List.length_append, List.length_nil] at hF
      obtain ⟨G, rfl⟩ : ∃ G, F = G + 1 := ⟨F - 1, by omega⟩
      have hu := upE_list (dep + 1) d false (pre ++ [60, 60]) suf [] G hx (by simpa using hln) (by omega)
      have hq : (pre ++ [(60 : UInt8), 60]).length = pre.length + 2 := by simp only [List.length_append, List.length_cons, List.length_nil]
      rw [← e1, List.nil_append, hq] at hu
      have hst : settle (d.map (fun e => (e.1, e.2.norm))) = d.map (fun e => (e.1, e.2.norm)) := settle_same (by
        have := senseD_norm d []
        rw [List.map_nil] at this
        rw [this]; exact hsd)
      rw [obj_dict _ _ _ _ c1, if_neg (by omega), c5, hu, if_pos rfl, hst, norm_mk, normD_map]
      simp
      omega
/-- What is written is read, behind anything, ahead of what may follow. -/
theorem parse_back {o : Ob} (hs : o.sane 0 = 0) (h8 : o.k ≠ 8) (pre suf : List UInt8) (ha : Aft suf) : parse (pre ++ (o.text ++ suf)) pre.length = (0, o.norm, pre.length + o.text.length) := by
  have hlen := text_ne o 0 (sane_own hs) h8
  obtain ⟨r0, r1, r2, r3⟩ := rd_all _ o (Nat.le_refl _) 0 hs h8 pre suf (3 * (pre ++ (o.text ++ suf)).length + 2) ha (by simp only [List.length_append]; omega)
  unfold parse
  rw [if_neg (by rw [r0]; decide), r3]

end Go.Proofs.YtkpagahnmbchjaaGreatDoor.Cx
