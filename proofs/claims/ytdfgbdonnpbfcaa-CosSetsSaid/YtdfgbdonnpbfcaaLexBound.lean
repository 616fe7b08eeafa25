/-
  Where a token ends: behind where it begins, within the text.
-/
import Derived.Test.YtdfgbdonnpbfcaaCosMath
namespace Go.Proofs.Ytdfgbdonnpbfcaa.Lx

theorem name_bd (acc : List UInt8) (m : Nat) (l : List UInt8) (k : Nat) : (nameGo acc m l k).1 = 0 → k ≤ (nameGo acc m l k).2.2 ∧ (nameGo acc m l k).2.2 ≤ k + l.length := by
  fun_induction nameGo acc m l k with
  | case1 => intro _; simp
  | case2 acc k m b r ih => intro h; have := ih h; simp only [List.length_cons]; omega
  | case3 acc k b h1 h2 a c tail h3 ih => intro h; have := ih h; simp only [List.length_cons] at this ⊢; omega
  | case4 => intro h; simp at h
  | case5 => intro h; simp at h
  | case6 acc k b r h1 h2 ih => intro h; have := ih h; simp only [List.length_cons]; omega
  | case7 => intro _; simp

theorem text_bd (acc : List UInt8) (d m : Nat) (l : List UInt8) (k : Nat) : (textGo acc d m l k).1 = 0 → k < (textGo acc d m l k).2.2 ∧ (textGo acc d m l k).2.2 ≤ k + l.length := by
  fun_induction textGo acc d m l k with
  | case1 => intro h; simp at h
  | case5 => intro _; simp
  | case2 acc d k m b r ih => intro h; have := ih h; simp only [List.length_cons]; omega
  | case3 acc d k b r h1 ih => intro h; have := ih h; simp only [List.length_cons]; omega
  | case4 acc d k b r h1 h2 ih => intro h; have := ih h; simp only [List.length_cons]; omega
  | case6 acc k b r h1 h2 h3 d ih => intro h; have := ih h; simp only [List.length_cons]; omega
  | case7 acc d k b r h1 h2 h3 h4 ih => intro h; have := ih h; simp only [List.length_cons]; omega
  | case8 acc d k b r h1 h2 h3 h4 ih => intro h; have := ih h; simp only [List.length_cons]; omega

theorem hex_bd (acc : List UInt8) (h : Option UInt8) (l : List UInt8) (k : Nat) : (hexGo acc h l k).1 = 0 → k < (hexGo acc h l k).2.2 ∧ (hexGo acc h l k).2.2 ≤ k + l.length := by
  fun_induction hexGo acc h l k with
  | case1 => intro h; simp at h
  | case2 => intro _; simp
  | case3 acc h b r k h1 h2 ih => intro h; have := ih h; simp only [List.length_cons]; omega
  | case4 acc b r k h1 h2 h3 ih => intro h; have := ih h; simp only [List.length_cons]; omega
  | case5 acc b r k h1 h2 h3 u ih => intro h; have := ih h; simp only [List.length_cons]; omega
  | case6 => intro h; simp at h

theorem ofR3_to {kind : Int} {x : R3} (h : (ofR3 kind x).1 = 0) : x.1 = 0 ∧ (ofR3 kind x).2 = ⟨kind, 0, x.2.1, false, 0, x.2.2⟩ := by
  unfold ofR3 at h ⊢
  by_cases e : x.1 = 0
  · rw [if_pos e]; exact ⟨e, rfl⟩
  · rw [if_neg e] at h; exact absurd h e

/-- Of a token that is one: at the end it is End; else it is none, and ends behind where it begins. -/
theorem tok_bd (l : List UInt8) (k : Nat) (hk : k ≤ l.length) (hs : spc false (l.drop k) = 0) (h : (tokV l k).1 = 0) :
    (k = l.length ∧ (tokV l k).2 = ⟨0, 0, [], false, 0, k⟩) ∨ (k < l.length ∧ (tokV l k).2.kind ≠ 0 ∧ k < (tokV l k).2.to ∧ (tokV l k).2.to ≤ l.length ∧ (tokV l k).2.frm = 0) := by
  have hlen : (l.drop k).length = l.length - k := List.length_drop
  have hw : wordV l k = wordV l k := rfl
  unfold tokV at h ⊢
  cases hd : l.drop k with
  | nil =>
    rw [hd] at hlen
    exact .inl ⟨by simp at hlen; omega, rfl⟩
  | cons b r =>
    rw [hd] at h hlen hs
    simp only [List.length_cons] at hlen
    simp only [] at h ⊢
    right
    refine ⟨by omega, ?_⟩
    by_cases h91 : (b == 91) = true
    · rw [if_pos h91]; simp; omega
    rw [if_neg h91] at h ⊢
    by_cases h93 : (b == 93) = true
    · rw [if_pos h93]; simp; omega
    rw [if_neg h93] at h ⊢
    by_cases h60 : (b == 60) = true
    · rw [if_pos h60] at h ⊢
      by_cases h2 : (r.head? == some 60) = true
      · rw [if_pos h2]
        have : 0 < r.length := by cases r with | nil => simp at h2 | cons _ _ => simp
        simp; omega
      · rw [if_neg h2] at h ⊢
        obtain ⟨e, he⟩ := ofR3_to h
        have := hex_bd _ _ _ _ e
        rw [he]; simp; omega
    rw [if_neg h60] at h ⊢
    by_cases h62 : (b == 62) = true
    · rw [if_pos h62] at h ⊢
      by_cases h2 : (r.head? == some 62) = true
      · rw [if_pos h2]
        have : 0 < r.length := by cases r with | nil => simp at h2 | cons _ _ => simp
        simp; omega
      · rw [if_neg h2] at h; simp at h
    rw [if_neg h62] at h ⊢
    by_cases h47 : (b == 47) = true
    · rw [if_pos h47] at h ⊢
      obtain ⟨e, he⟩ := ofR3_to h
      have := name_bd _ _ _ _ e
      rw [he]; simp; omega
    rw [if_neg h47] at h ⊢
    by_cases h40 : (b == 40) = true
    · rw [if_pos h40] at h ⊢
      obtain ⟨e, he⟩ := ofR3_to h
      have := text_bd _ _ _ _ _ e
      rw [he]; simp; omega
    rw [if_neg h40] at h ⊢
    by_cases h41 : (b == 41 || b == 123 || b == 125) = true
    · rw [if_pos h41] at h; simp at h
    rw [if_neg h41] at h ⊢
    have hreg : reg b = true := by
      have hwh : white b = false ∧ (b == 37) = false := by
        rw [spc] at hs
        cases e1 : white b
        · cases e2 : (b == 37)
          · exact ⟨rfl, rfl⟩
          · rw [e1, e2] at hs; simp at hs
        · rw [e1] at hs; simp at hs
      have := byte_all (fun c => white c || c == 91 || c == 93 || c == 60 || c == 62 || c == 47 || c == 40 || (c == 41 || c == 123 || c == 125) || c == 37 || reg c) (by kernel_rfl) b
      simp only [Bool.not_eq_true] at h91 h93 h60 h62 h47 h40 h41
      rw [hwh.1, h91, h93, h60, h62, h47, h40, h41, hwh.2] at this
      exact this
    have htw : 1 ≤ tw reg (l.drop k) ∧ tw reg (l.drop k) ≤ l.length - k := by
      constructor
      · rw [hd, tw, if_pos hreg]; omega
      · have := tw_le reg (l.drop k); rw [List.length_drop] at this; exact this
    unfold wordV at h ⊢
    split
    · rename_i h1
      rw [if_pos h1] at h
      split
      · simp; omega
      · rename_i h2; rw [if_neg h2] at h; simp at h; exact absurd h h2
    · simp; omega

theorem rest_zero : ∀ (c : Bool) (l : List UInt8), spc false (l.drop (spc c l)) = 0
  | c, [] => by rw [List.drop_nil]; rfl
  | true, b :: r => by
    rw [spc]
    split
    · rw [List.drop_succ_cons]; exact rest_zero true r
    · rw [List.drop_succ_cons]; exact rest_zero false r
  | false, b :: r => by
    cases hw : white b
    · by_cases h37 : (b == 37) = true
      · rw [spc, hw, if_neg (by simp), if_pos h37, List.drop_succ_cons]; exact rest_zero true r
      · rw [show spc false (b :: r) = 0 by rw [spc, hw, if_neg (by simp), if_neg h37], List.drop_zero, spc, hw, if_neg (by simp), if_neg h37]
    · rw [spc, hw, if_pos rfl, List.drop_succ_cons]; exact rest_zero false r

theorem space_bd (l : List UInt8) (a : Int) (h0 : 0 ≤ a) (h1 : a ≤ l.length) : a ≤ (spaceV l a : Int) ∧ spaceV l a ≤ l.length ∧ spc false (l.drop (spaceV l a)) = 0 := by
  unfold spaceV
  refine ⟨by omega, ?_, ?_⟩
  · have := spc_le false (l.drop (min (max a 0) (l.length : Int)).toNat)
    simp at this; omega
  · rw [← List.drop_drop]; exact rest_zero _ _

/-- Where a token that is one stands. -/
theorem next_bd (l : List UInt8) (a : Int) (h : (nextV l a).1 = 0) : 0 ≤ a ∧ a ≤ l.length ∧ a ≤ ((nextV l a).2.frm : Int) ∧ (nextV l a).2.frm ≤ l.length ∧ (nextV l a).2.frm ≤ (nextV l a).2.to ∧ (nextV l a).2.to ≤ l.length ∧
    (((nextV l a).2.kind = 0 ∧ (nextV l a).2.frm = l.length ∧ (nextV l a).2.to = (nextV l a).2.frm) ∨ ((nextV l a).2.kind ≠ 0 ∧ (nextV l a).2.frm < l.length ∧ (nextV l a).2.frm < (nextV l a).2.to)) := by
  unfold nextV at h ⊢
  by_cases hin : 0 ≤ a ∧ a ≤ (l.length : Int)
  · rw [if_pos hin] at h ⊢
    obtain ⟨b1, b2, b3⟩ := space_bd l a hin.1 hin.2
    by_cases he : (tokV l (spaceV l a)).1 = 0
    · rw [if_pos he]
      rcases tok_bd l _ b2 b3 he with ⟨h1, h2⟩ | ⟨h1, h2, h3, h4, h5⟩
      · rw [h2]; simp; omega
      · simp only []; omega
    · rw [if_neg he] at h; exact absurd h he
  · rw [if_neg hin] at h; simp at h

end Go.Proofs.Ytdfgbdonnpbfcaa.Lx
