/-
  Operators that were written are parsed as they were. Nothing of the program is named here.
-/
import Derived.Test.YtkpagahnmbchjaaGreatDoorWbMath
import Derived.Test.YtkpagahnmbchjaaGreatDoorLexM
namespace Go.Proofs.YtkpagahnmbchjaaGreatDoor.Cx
open Lx
set_option linter.unusedSimpArgs false
set_option linter.unusedVariables false

/-- An object that is no Num and no Ref is read, whatever stands behind it, but a byte of a word. -/
def RdL (o : Ob) (dep : Nat) : Prop := ∀ (pre suf : List UInt8) (F : Nat), tw reg suf = 0 → o.text.length + 1 ≤ F →
  (nextV (pre ++ (o.text ++ suf)) pre.length).1 = 0 ∧ (nextV (pre ++ (o.text ++ suf)) pre.length).2.kind ≠ 0 ∧ (nextV (pre ++ (o.text ++ suf)) pre.length).2.kind ≠ 5 ∧
    objOf F (pre ++ (o.text ++ suf)) dep (nextV (pre ++ (o.text ++ suf)) pre.length).2 = (0, o.norm, pre.length + o.text.length)

theorem rl_word {o x : Ob} {dep : Nat} {t : List UInt8} (ht : o.text = t) (hx : o.norm = x) (hn : t ≠ []) (hb : ∀ b ∈ t, reg b = true) (h0 : numB (t.headD 0) = false) (hw : Cx.wordV t = (0, x)) : RdL o dep := by
  intro pre suf F ha hF
  rw [ht] at hF ⊢
  obtain ⟨c0, c1, c2, c3, c4, c5⟩ := isTok_in pre (next_word hn hb h0 ha)
  refine ⟨c0, by rw [c1]; decide, by rw [c1]; decide, ?_⟩
  obtain ⟨G, rfl⟩ : ∃ G, F = G + 1 := ⟨F - 1, by omega⟩
  rw [objOf]
  simp only [c1, c3, c5, hw, hx, if_true, if_false, show ¬ ((8 : Int) = 0) by decide, show ¬ ((8 : Int) = 1) by decide, show ¬ ((8 : Int) = 2) by decide, show ¬ ((8 : Int) = 3) by decide]
theorem rl_null (n f : Int) (s : ByteArray) (l : List Ob) (d : List Entr) (dep : Nat) : RdL (.mk 0 n f s l d) dep :=
  rl_word (t := nullT) (x := nul) (by rw [text_mk]; rfl) (by rw [norm_mk]; rfl) (by decide) (by decide) (by decide) rfl
theorem rl_bool (n f : Int) (s : ByteArray) (l : List Ob) (d : List Entr) (dep : Nat) (hn : n = 0 ∨ n = 1) : RdL (.mk 1 n f s l d) dep := by
  rcases hn with rfl | rfl
  · exact rl_word (t := falseT) (x := .mk 1 0 0 ⟨#[]⟩ [] []) (by rw [text_mk]; rfl) (by rw [norm_mk]; rfl) (by decide) (by decide) (by decide) rfl
  · exact rl_word (t := trueT) (x := .mk 1 1 0 ⟨#[]⟩ [] []) (by rw [text_mk]; rfl) (by rw [norm_mk]; rfl) (by decide) (by decide) (by decide) rfl
theorem rl_name (n f : Int) (s : ByteArray) (l : List Ob) (d : List Entr) (dep : Nat) : RdL (.mk 3 n f s l d) dep := by
  intro pre suf F ha hF
  have ht : (Ob.mk 3 n f s l d).text = nameV s.data.toList := by rw [text_mk]; rfl
  rw [ht] at hF ⊢
  obtain ⟨c0, c1, c2, c3, c4, c5⟩ := isTok_in pre (Lx.next_name s.data.toList suf (aft_more ha))
  refine ⟨c0, by rw [c1]; decide, by rw [c1]; decide, ?_⟩
  obtain ⟨G, rfl⟩ : ∃ G, F = G + 1 := ⟨F - 1, by omega⟩
  rw [objOf]
  simp only [c1, c3, c5, norm_mk, str_list, if_true, if_false, show ¬ ((2 : Int) = 0) by decide, show ¬ ((2 : Int) = 1) by decide]
  simp
theorem rl_str (n f : Int) (s : ByteArray) (l : List Ob) (d : List Entr) (dep : Nat) : RdL (.mk 4 n f s l d) dep := by
  intro pre suf F ha hF
  have ht : (Ob.mk 4 n f s l d).text = quoteV s.data.toList := by rw [text_mk]; rfl
  rw [ht] at hF ⊢
  obtain ⟨c0, c1, c2, c3, c4, c5⟩ := isTok_in pre (next_quote s.data.toList suf)
  refine ⟨c0, by rw [c1]; decide, by rw [c1]; decide, ?_⟩
  obtain ⟨G, rfl⟩ : ∃ G, F = G + 1 := ⟨F - 1, by omega⟩
  rw [objOf]
  simp only [c1, c3, c5, norm_mk, str_list, if_true, if_false, show ¬ ((3 : Int) = 0) by decide, show ¬ ((3 : Int) = 1) by decide, show ¬ ((3 : Int) = 2) by decide]
  simp

theorem rl_all (o : Ob) (dep : Nat) (hs : o.sane dep = 0) (h8 : o.k ≠ 8) (h2 : o.k ≠ 2) (h7 : o.k ≠ 7) : RdL o dep := by
    have hown := sane_own hs
    obtain ⟨k, n, f, s, l, d⟩ := o
    have hse := sane_mk k n f s l d dep
    rw [if_neg (by rw [hown]; decide), hs] at hse
    simp only [Ob.k, Ob.l, Ob.d] at h8 h2 h7
    cases fact_of hown with
    | flat h =>
      rcases h with rfl | rfl | rfl
      · exact rl_null n f s l d dep
      · exact rl_name n f s l d dep
      · exact rl_str n f s l d dep
    | bool h hn => subst h; exact rl_bool n f s l d dep hn
    | num h hf hn => exact absurd h h2
    | ref h h0 h1 f0 hf hw => exact absurd h h7
    | stream h => exact absurd h h8
    | arr h hln hdp =>
      subst h
      rw [if_pos rfl] at hse
      have hx : ∀ x ∈ l, RdC x (dep + 1) ∧ own x (dep + 1) = 0 ∧ x.k ≠ 8 := fun x hx => by
        have h1 := saneL_all l _ hse.symm x hx
        exact ⟨rd_all _ x (Nat.le_refl _) _ h1 (sane_no8 h1), sane_own h1, sane_no8 h1⟩
      intro pre suf F ha hF
      rw [text5] at hF ⊢
      have e0 : pre ++ (91 :: (textL false l ++ [93]) ++ suf) = pre ++ (91 :: (textL false l ++ (93 :: suf))) := by simp
      have e1 : pre ++ (91 :: (textL false l ++ (93 :: suf))) = (pre ++ [91]) ++ (textL false l ++ (93 :: suf)) := by simp
      rw [e0]
      obtain ⟨c0, c1, c2, c3, c4, c5⟩ := isTok_app pre (91 :: (textL false l ++ (93 :: suf))) (next_arr _)
      refine ⟨c0, by rw [c1]; decide, by rw [c1]; decide, ?_⟩
      simp only [List.length_cons, List.length_append, List.length_nil] at hF
      obtain ⟨G, rfl⟩ : ∃ G, F = G + 1 := ⟨F - 1, by omega⟩
      have hu := upO_list (dep + 1) l false (pre ++ [91]) suf [] G hx (by simpa using hln) (by omega)
      have hq : (pre ++ [(91 : UInt8)]).length = pre.length + 1 := by simp only [List.length_append, List.length_cons, List.length_nil]
      rw [← e1, List.nil_append, hq] at hu
      rw [obj_arr _ _ _ _ c1, if_neg (by omega), c5, hu, if_pos rfl, norm_mk, normL_map]
      simp
      omega
    | dict h hsd hln hdp =>
      subst h
      rw [if_neg (by decide), if_pos (.inl rfl)] at hse
      have hx : ∀ x ∈ d, RdC x.2 (dep + 1) ∧ own x.2 (dep + 1) = 0 ∧ x.2.k ≠ 8 := fun x hx => by
        have h1 := saneE_all d _ hse.symm x hx
        exact ⟨rd_all _ x.2 (Nat.le_refl _) _ h1 (sane_no8 h1), sane_own h1, sane_no8 h1⟩
      intro pre suf F ha hF
      rw [text6] at hF ⊢
      have e0 : pre ++ ([60, 60] ++ textD false d ++ [62, 62] ++ suf) = pre ++ (60 :: 60 :: (textD false d ++ (62 :: 62 :: suf))) := by simp
      have e1 : pre ++ (60 :: 60 :: (textD false d ++ (62 :: 62 :: suf))) = (pre ++ [60, 60]) ++ (textD false d ++ (62 :: 62 :: suf)) := by simp
      rw [e0]
      obtain ⟨c0, c1, c2, c3, c4, c5⟩ := isTok_app pre (60 :: 60 :: (textD false d ++ (62 :: 62 :: suf))) (next_dict _)
      refine ⟨c0, by rw [c1]; decide, by rw [c1]; decide, ?_⟩
      simp only [List.length_cons, List.length_append, List.length_nil] at hF
      obtain ⟨G, rfl⟩ : ∃ G, F = G + 1 := ⟨F - 1, by omega⟩
      have hu := upE_list (dep + 1) d false (pre ++ [60, 60]) suf [] G hx (by simpa using hln) (by omega)
      have hq : (pre ++ [(60 : UInt8), 60]).length = pre.length + 2 := by simp only [List.length_append, List.length_cons, List.length_nil]
      rw [← e1, List.nil_append, hq] at hu
      have hst : settle (d.map (fun e => (e.1, e.2.norm))) = d.map (fun e => (e.1, e.2.norm)) := settle_same (by
        have := senseD_norm d []
        rw [List.map_nil] at this
        rw [this]; exact hsd)
      rw [obj_dict _ _ _ _ c1, if_neg (by omega), c5, hu, if_pos rfl, hst, norm_mk, normD_map]
      simp
      omega

theorem parse_loose {o : Ob} (hs : o.sane 0 = 0) (h8 : o.k ≠ 8) (h2 : o.k ≠ 2) (h7 : o.k ≠ 7) (pre suf : List UInt8) (ha : tw reg suf = 0) : parse (pre ++ (o.text ++ suf)) pre.length = (0, o.norm, pre.length + o.text.length) := by
  have hlen := text_ne o 0 (sane_own hs) h8
  obtain ⟨r0, r1, r2, r3⟩ := rl_all o 0 hs h8 h2 h7 pre suf (3 * (pre ++ (o.text ++ suf)).length + 2) ha (by simp only [List.length_append]; omega)
  unfold parse
  rw [if_neg (by rw [r0]; decide), r3]

/-- The first token of an object that may be. -/
theorem tok_first {o : Ob} (hs : o.sane 0 = 0) (h8 : o.k ≠ 8) (h7 : o.k ≠ 7) (suf : List UInt8) (ha : tw reg suf = 0) :
    ∃ T, nextV (o.text ++ suf) 0 = (0, T) ∧ T.frm = 0 ∧ T.kind ≠ 0 ∧ isOp T = false ∧ (o.k = 2 → T.kind = 1 ∧ T.to = o.text.length) ∧ (o.k ≠ 2 → T.kind ≠ 1) := by
  have hown := sane_own hs
  obtain ⟨k, n, f, s, l, d⟩ := o
  simp only [Ob.k] at h8 h7 ⊢
  have word : ∀ t : List UInt8, (Ob.mk k n f s l d).text = t → t ≠ [] → (∀ b ∈ t, reg b = true) → numB (t.headD 0) = false → (t == trueT || t == falseT || t == nullT) = true → k ≠ 2 →
      ∃ T, nextV ((Ob.mk k n f s l d).text ++ suf) 0 = (0, T) ∧ T.frm = 0 ∧ T.kind ≠ 0 ∧ isOp T = false ∧ (k = 2 → T.kind = 1 ∧ T.to = (Ob.mk k n f s l d).text.length) ∧ (k ≠ 2 → T.kind ≠ 1) := fun t e h1 h2 h3 h4 h5 => by
    rw [e]
    refine ⟨_, next_word h1 h2 h3 ha, rfl, by simp, ?_, fun h => absurd h h5, fun _ => by simp⟩
    unfold isOp
    simp only [] at h4 ⊢
    rw [h4]; rfl
  have op : ∀ (T : Tok), T.kind ≠ 8 → isOp T = false := fun T h => by unfold isOp; rw [show (T.kind == 8) = false by simpa using h]; rfl
  cases fact_of hown with
  | flat h =>
    rcases h with rfl | rfl | rfl
    · exact word nullT (by rw [text_mk]; rfl) (by decide) (by decide) (by decide) (by decide) (by decide)
    · have e : (Ob.mk 3 n f s l d).text = nameV s.data.toList := by rw [text_mk]; rfl
      rw [e]
      exact ⟨_, Lx.next_name s.data.toList suf (aft_more ha), rfl, by simp, op _ (by simp), fun h => absurd h (by decide), fun _ => by simp⟩
    · have e : (Ob.mk 4 n f s l d).text = quoteV s.data.toList := by rw [text_mk]; rfl
      rw [e]
      exact ⟨_, next_quote s.data.toList suf, rfl, by simp, op _ (by simp), fun h => absurd h (by decide), fun _ => by simp⟩
  | bool h hn =>
    subst h
    rcases hn with rfl | rfl
    · exact word falseT (by rw [text_mk]; rfl) (by decide) (by decide) (by decide) (by decide) (by decide)
    · exact word trueT (by rw [text_mk]; rfl) (by decide) (by decide) (by decide) (by decide) (by decide)
  | num h hf hn =>
    subst h
    have e : (Ob.mk 2 n f s l d).text = numT n f := by rw [text_mk]; rfl
    rw [e]
    exact ⟨_, next_numT hf hn ha, rfl, by simp, op _ (by simp), fun _ => ⟨rfl, rfl⟩, fun h => absurd rfl h⟩
  | arr h hl hd =>
    subst h
    rw [text5, List.cons_append]
    exact ⟨_, next_arr _, rfl, by simp, op _ (by simp), fun h => absurd h (by decide), fun _ => by simp⟩
  | ref h => exact absurd h h7
  | dict h =>
    subst h
    rw [text6]
    have e : ([60, 60] ++ textD false d ++ [62, 62] ++ suf : List UInt8) = 60 :: 60 :: (textD false d ++ [62, 62] ++ suf) := by simp
    rw [e]
    exact ⟨_, next_dict _, rfl, by simp, op _ (by simp), fun h => absurd h (by decide), fun _ => by simp⟩
  | stream h => exact absurd h h8

/-- An object among operands is read. -/
theorem object_back {o : Ob} (hs : o.sane 0 = 0) (h8 : o.k ≠ 8) (h7 : o.k ≠ 7) (pre suf : List UInt8) (ha : tw reg suf = 0) :
    (nextV (pre ++ (o.text ++ suf)) pre.length).1 = 0 ∧ (nextV (pre ++ (o.text ++ suf)) pre.length).2.kind ≠ 0 ∧ isOp (nextV (pre ++ (o.text ++ suf)) pre.length).2 = false ∧
      objectV (pre ++ (o.text ++ suf)) (nextV (pre ++ (o.text ++ suf)) pre.length).2 = (0, o.norm, pre.length + o.text.length) := by
  obtain ⟨T, h0, h1, h2, h3, h4, h5⟩ := tok_first hs h8 h7 suf ha
  have hn := next_app pre (o.text ++ suf)
  rw [h0, if_pos rfl] at hn
  rw [hn]
  refine ⟨rfl, h2, h3, ?_⟩
  unfold objectV
  by_cases hk : o.k = 2
  · obtain ⟨k1, k2⟩ := h4 hk
    rw [if_pos k1]
    simp only [h1, k2, Nat.zero_add]
    have e : (pre ++ (o.text ++ suf)).take (o.text.length + pre.length) = pre ++ (o.text ++ []) := by
      rw [List.append_nil, ← List.append_assoc, List.take_append_of_le_length (by rw [List.length_append]; omega), List.take_of_length_le (by rw [List.length_append]; omega)]
    rw [e]
    exact parse_back hs h8 pre [] aft_nil
  · rw [if_neg (h5 hk)]
    simp only [h1, Nat.zero_add]
    exact parse_loose hs h8 hk h7 pre suf ha

/-- White ahead of a token. -/
theorem next_any_white (a r : List UInt8) (b : UInt8) (hb : white b = true) : nextV (a ++ b :: r) (a.length : Int) = nextV (a ++ b :: r) ((a.length + 1 : Nat) : Int) := by
  have hs : spaceV (a ++ b :: r) (a.length : Int) = spaceV (a ++ b :: r) ((a.length + 1 : Nat) : Int) := by
    unfold spaceV
    have h0 : (min (max (a.length : Int) 0) ((a ++ b :: r).length : Int)).toNat = a.length := by rw [List.length_append]; omega
    have h1 : (min (max ((a.length + 1 : Nat) : Int) 0) ((a ++ b :: r).length : Int)).toNat = a.length + 1 := by rw [List.length_append, List.length_cons]; omega
    rw [h0, h1, List.drop_left, ← List.drop_drop, List.drop_left, List.drop_succ_cons, List.drop_zero, spc, if_pos hb]; omega
  have hc : (0 : Int) ≤ (a.length : Int) ∧ (a.length : Int) ≤ ((a ++ b :: r).length : Int) := ⟨by omega, by rw [List.length_append]; omega⟩
  have hc' : (0 : Int) ≤ ((a.length + 1 : Nat) : Int) ∧ ((a.length + 1 : Nat) : Int) ≤ ((a ++ b :: r).length : Int) := ⟨by omega, by rw [List.length_append, List.length_cons]; omega⟩
  unfold nextV
  rw [if_pos hc, if_pos hc', hs]
/-- Nothing, or one white byte. -/
def Ws1 (ws : List UInt8) : Prop := ws = [] ∨ ∃ b, ws = [b] ∧ white b = true
theorem next_ws {pre ws r : List UInt8} (h : Ws1 ws) : nextV (pre ++ (ws ++ r)) (pre.length : Int) = nextV ((pre ++ ws) ++ r) ((pre ++ ws).length : Int) := by
  rcases h with rfl | ⟨b, rfl, hb⟩
  · rw [List.nil_append, List.append_nil]
  · rw [List.append_assoc, List.singleton_append, next_any_white _ _ _ hb, List.length_append, List.length_singleton]

theorem named_facts {nm : List UInt8} (h : named nm = true) : nm ≠ [] ∧ (∀ b ∈ nm, reg b = true) ∧ numB (nm.headD 0) = false ∧ nm ≠ [66, 73] ∧ (nm == trueT || nm == falseT || nm == nullT) = false := by
  unfold named at h
  simp only [Bool.and_eq_true, beq_iff_eq, Bool.not_eq_true'] at h
  obtain ⟨⟨⟨h0, h1⟩, h2⟩, h3⟩ := h
  unfold isOp at h1
  simp only [Bool.and_eq_true, beq_iff_eq, Bool.not_eq_true'] at h1
  obtain ⟨h1, h4⟩ := h1
  rw [h2] at h4
  have h5 : nm ≠ [66, 73] := by simpa using h3
  rw [next_zero] at h0 h1 h2
  obtain ⟨K, hK⟩ : ∃ K, K = spc false nm := ⟨_, rfl⟩
  rw [← hK] at h0 h1 h2
  by_cases hz : (tokV nm K).1 = 0
  · rw [if_pos hz] at h1 h2
    simp only [] at h1 h2
    have rk : ∀ (kind : Int) (x : R3), (ofR3 kind x).2.kind = kind ∨ (ofR3 kind x).2.kind = 0 := fun kind x => by
      unfold ofR3; split
      · exact .inl rfl
      · exact .inr rfl
    unfold tokV at h1 h2
    cases hd : nm.drop K with
    | nil => rw [hd] at h1; exact absurd h1 (by simp [zero])
    | cons b r =>
      rw [hd] at h1 h2
      simp only [] at h1 h2
      have key : (Lx.wordV nm K).2.kind = 8 ∧ (Lx.wordV nm K).2.s = nm := by
        split at h1
        · exact absurd h1 (by simp [zero])
        · split at h1
          · exact absurd h1 (by simp [zero])
          · split at h1
            · split at h1
              · exact absurd h1 (by simp [zero])
              · rcases rk 3 (hexGo [] none r (K + 1)) with e | e <;> rw [e] at h1 <;> exact absurd h1 (by simp [zero])
            · split at h1
              · split at h1
                · exact absurd h1 (by simp [zero])
                · exact absurd h1 (by simp [zero])
              · split at h1
                · rcases rk 2 (nameGo [] 0 r (K + 1)) with e | e <;> rw [e] at h1 <;> exact absurd h1 (by simp [zero])
                · split at h1
                  · rcases rk 3 (textGo [] 0 0 r (K + 1)) with e | e <;> rw [e] at h1 <;> exact absurd h1 (by simp [zero])
                  · split at h1
                    · exact absurd h1 (by simp [zero])
                    · rename_i a1 a2 a3 a4 a5 a6 a7
                      rw [if_neg a1, if_neg a2, if_neg a3, if_neg a4, if_neg a5, if_neg a6, if_neg a7] at h2
                      exact ⟨h1, h2⟩
      obtain ⟨q1, q2⟩ := key
      unfold Lx.wordV at q1 q2
      by_cases hnb : numB ((nm.drop K).headD 0) = true
      · rw [if_pos hnb] at q1
        split at q1
        · exact absurd q1 (by first | (simp; done) | (unfold zero; simp))
        · exact absurd q1 (by first | (simp; done) | (unfold zero; simp))
      · rw [if_neg hnb] at q2
        simp only [] at q2
        have hl := congrArg List.length q2
        rw [List.length_take, List.length_drop] at hl
        have hne : nm ≠ [] := by intro e; rw [e] at hd; simp at hd
        have hpos : 0 < nm.length := List.length_pos_iff.2 hne
        have hK0 : K = 0 := by omega
        rw [hK0, List.drop_zero] at q2 hnb
        refine ⟨hne, ?_, by simpa using hnb, h5, h4⟩
        intro b hb
        rw [← q2] at hb
        exact tw_take reg nm b hb
  · rw [if_neg hz] at h0; exact absurd h0 hz

/-- An operator as a text, without the line's end. -/
def wordsT (xs : List Ob) (nm : List UInt8) : List UInt8 := Lib.join (xs.map Ob.text ++ [nm]) [32]
theorem wordsT_nil (nm : List UInt8) : wordsT [] nm = nm := by unfold wordsT; simp [Lib.join]
theorem wordsT_cons (x : Ob) (r : List Ob) (nm : List UInt8) : wordsT (x :: r) nm = x.text ++ (32 :: wordsT r nm) := by
  unfold wordsT
  rw [List.map_cons, List.cons_append]
  cases h : r.map Ob.text ++ [nm] with
  | nil => simp at h
  | cons y l => simp [Lib.join]

/-- May an object stand ahead of an operator? -/
def OkA (o : Ob) : Prop := o.sane 0 = 0 ∧ o.k ≠ 8 ∧ o.k ≠ 7
theorem oper_back {nm : List UInt8} (hn : named nm = true) : ∀ (xs : List Ob) (m : Nat) (acc : List Ob) (pre ws suf : List UInt8), (∀ x ∈ xs, OkA x) → Ws1 ws → tw reg suf = 0 →
    operGo (pre ++ (ws ++ (wordsT xs nm ++ suf))) m acc pre.length = if xs.length ≤ m then (0, opO (str nm) (acc ++ xs.map Ob.norm), pre.length + ws.length + (wordsT xs nm).length) else (6, nul, 0)
  | [], m, acc, pre, ws, suf, _, hw, hs => by
    obtain ⟨f1, f2, f3, f4, f5⟩ := named_facts hn
    rw [wordsT_nil, if_pos (show ([] : List Ob).length ≤ m from Nat.zero_le _)]
    have hx : nextV (pre ++ (ws ++ (nm ++ suf))) (pre.length : Int) = (0, ⟨8, 0, nm, false, (pre ++ ws).length, nm.length + (pre ++ ws).length⟩) := by
      rw [next_ws hw, next_app, next_word f1 f2 f3 hs, if_pos rfl]; simp
    have hop : isOp (⟨8, 0, nm, false, (pre ++ ws).length, nm.length + (pre ++ ws).length⟩ : Tok) = true := by
      unfold isOp; simp only [f5]; rfl
    have hst : ∀ rest, operStep (pre ++ (ws ++ (nm ++ suf))) acc (pre.length : Int) rest = (0, opO (str nm) (acc ++ [].map Ob.norm), pre.length + ws.length + nm.length) := fun rest => by
      unfold operStep
      rw [hx]
      rw [if_neg (by simp), if_neg (by simp), if_pos (.inr hop)]
      simp; omega
    cases m <;> exact hst _
  | x :: r, m, acc, pre, ws, suf, hx, hw, hs => by
    obtain ⟨x1, x2, x3⟩ := hx x List.mem_cons_self
    have e : pre ++ (ws ++ (wordsT (x :: r) nm ++ suf)) = (pre ++ ws) ++ (x.text ++ (32 :: (wordsT r nm ++ suf))) := by rw [wordsT_cons]; simp
    obtain ⟨o0, o1, o2, o3⟩ := object_back x1 x2 x3 (pre ++ ws) (32 :: (wordsT r nm ++ suf)) rfl
    have en : nextV (pre ++ (ws ++ (wordsT (x :: r) nm ++ suf))) (pre.length : Int) = nextV ((pre ++ ws) ++ (x.text ++ (32 :: (wordsT r nm ++ suf)))) ((pre ++ ws).length : Int) := by
      rw [next_ws hw, wordsT_cons]; simp
    have hst : ∀ rest, operStep (pre ++ (ws ++ (wordsT (x :: r) nm ++ suf))) acc (pre.length : Int) rest = rest := fun rest => by
      unfold operStep
      rw [en, if_neg (by rw [o0]; decide), if_neg (fun h => o1 h.1), if_neg (fun h => by rcases h with h | h; exact o1 h; rw [o2] at h; cases h)]
    cases m with
    | zero => rw [operGo, hst, if_neg (by simp)]
    | succ m =>
      have ih := oper_back hn r m (acc ++ [x.norm]) (pre ++ ws ++ x.text) [32] suf (fun y hy => hx y (List.mem_cons_of_mem _ hy)) (.inr ⟨32, rfl, rfl⟩) hs
      rw [operGo, hst, en]
      rw [show objectV (pre ++ (ws ++ (wordsT (x :: r) nm ++ suf))) = objectV ((pre ++ ws) ++ (x.text ++ (32 :: (wordsT r nm ++ suf)))) by rw [e], o3, if_neg (by simp)]
      have e2 : pre ++ (ws ++ (wordsT (x :: r) nm ++ suf)) = pre ++ ws ++ x.text ++ ([32] ++ (wordsT r nm ++ suf)) := by rw [wordsT_cons]; simp
      rw [e2]
      have e3 : (((pre ++ ws).length + x.text.length : Nat) : Int) = ((pre ++ ws ++ x.text).length : Int) := by rw [List.length_append (as := pre ++ ws)]
      simp only [e3]
      rw [ih]
      by_cases hm : r.length ≤ m
      · rw [if_pos hm, if_pos (by simpa using hm), wordsT_cons]
        simp; omega
      · rw [if_neg hm, if_neg (by simpa using hm)]

/-- May an operator be written? -/
def OkP (o : Ob) : Prop := o = opO o.s o.l ∧ named o.s.data.toList = true ∧ o.l.length ≤ 64 ∧ ∀ x ∈ o.l, OkA x
def normP (o : Ob) : Ob := opO o.s (o.l.map Ob.norm)
/-- One operator further. -/
theorem ops_one {o : Ob} (h : OkP o) (m : Nat) (acc : List Ob) (pre ws suf : List UInt8) (hw : Ws1 ws) (hs : tw reg suf = 0) :
    opsGo (pre ++ (ws ++ (wordsT o.l o.s.data.toList ++ suf))) (m + 1) acc pre.length = opsGo (pre ++ (ws ++ (wordsT o.l o.s.data.toList ++ suf))) m (acc ++ [normP o]) ((pre ++ (ws ++ wordsT o.l o.s.data.toList)).length : Nat) := by
  obtain ⟨h1, h2, h3, h4⟩ := h
  obtain ⟨f1, f2, f3, f4, f5⟩ := named_facts h2
  have hb := oper_back h2 o.l 64 [] pre ws suf h4 hw hs
  rw [if_pos h3, str_list, List.nil_append] at hb
  rw [opsGo]
  unfold opsStep
  rw [hb]
  simp only []
  rw [show (opO o.s (o.l.map Ob.norm)).s = o.s from rfl, if_neg (by decide), if_neg f1, if_neg f4]
  unfold normP
  congr 1
  simp only [List.length_append]; omega
/-- At the end. -/
theorem ops_end (m : Nat) (acc : List Ob) (pre ws : List UInt8) (hw : Ws1 ws) : opsGo (pre ++ ws) m acc pre.length = (0, acc) := by
  have hx : nextV (pre ++ ws) (pre.length : Int) = (0, ⟨0, 0, [], false, (pre ++ ws).length, (pre ++ ws).length⟩) := by
    have h1 := next_ws (pre := pre) (r := []) hw
    rw [List.append_nil, List.append_nil] at h1
    have h2 := next_app (pre ++ ws) []
    rw [List.append_nil, next_end, if_pos rfl] at h2
    rw [h1, h2]; simp
  have ho : operGo (pre ++ ws) 64 [] (pre.length : Int) = (0, opO (str []) [], (pre ++ ws).length) := by
    rw [operGo]
    unfold operStep
    rw [hx, if_neg (by simp), if_neg (fun h => h.2 rfl), if_pos (.inl rfl)]
  have hst : ∀ rest, opsStep (pre ++ ws) acc (pre.length : Int) rest = (0, acc) := fun rest => by
    unfold opsStep
    rw [ho, if_neg (by simp), if_pos (show ((0, opO (str []) [], (pre ++ ws).length) : Int × Ob × Nat).2.1.s.data.toList = [] from rfl)]
  cases m <;> exact hst _
/-- Operators' lines. -/
def linesW (os : List Ob) : List UInt8 := os.flatMap fun o => wordsT o.l o.s.data.toList ++ [10]
theorem ops_lines : ∀ (os : List Ob) (m : Nat) (acc : List Ob) (pre ws : List UInt8), (∀ o ∈ os, OkP o) → Ws1 ws → os.length ≤ m →
    opsGo (pre ++ (ws ++ linesW os)) m acc pre.length = (0, acc ++ os.map normP)
  | [], m, acc, pre, ws, _, hw, _ => by
    rw [show linesW [] = [] from rfl, List.append_nil, ops_end m acc pre ws hw]; simp
  | o :: r, m, acc, pre, ws, hx, hw, hm => by
    obtain ⟨m, rfl⟩ : ∃ q, m = q + 1 := ⟨m - 1, by simp at hm; omega⟩
    have e : linesW (o :: r) = wordsT o.l o.s.data.toList ++ (10 :: linesW r) := by unfold linesW; rw [List.flatMap_cons]; simp
    rw [e, ops_one (hx o List.mem_cons_self) m acc pre ws (10 :: linesW r) hw rfl]
    have ih := ops_lines r m (acc ++ [normP o]) (pre ++ (ws ++ wordsT o.l o.s.data.toList)) [10] (fun y hy => hx y (List.mem_cons_of_mem _ hy)) (.inr ⟨10, rfl, rfl⟩) (by simpa using hm)
    have e2 : pre ++ (ws ++ (wordsT o.l o.s.data.toList ++ (10 :: linesW r))) = pre ++ (ws ++ wordsT o.l o.s.data.toList) ++ ([10] ++ linesW r) := by simp
    rw [e2, ih]; simp

end Go.Proofs.YtkpagahnmbchjaaGreatDoor.Cx
