/-
  A token read alone is the same token.
-/
import Derived.Test.YtkpagahnmbchjaaGreatDoorLexM
namespace Go.Proofs.YtkpagahnmbchjaaGreatDoor.Lx

theorem take_cons' (b : UInt8) (r : List UInt8) {c : Nat} (h : 0 < c) : (b :: r).take c = b :: r.take (c - 1) := by
  obtain ⟨n, rfl⟩ : ∃ n, c = n + 1 := ⟨c - 1, by omega⟩
  rfl

theorem oct_take : ∀ (n v : Nat) (l : List UInt8) (c : Nat), (oct v n l).2 < c → oct v n (l.take c) = oct v n l
  | 0, v, l, c, _ => by unfold oct; rfl
  | n + 1, v, [], c, _ => by rw [List.take_nil]
  | n + 1, v, b :: r, c, h => by
    rw [take_cons' b r (by omega)]
    unfold oct at h ⊢
    cases e : isOct b
    · rfl
    · rw [e] at h
      simp only [if_true] at h ⊢
      rw [oct_take n _ r (c - 1) (by omega)]
theorem crlf_take (r : List UInt8) (c : Nat) (h : crlf r < c) : crlf (r.take c) = crlf r := by
  cases r with
  | nil => rw [List.take_nil]
  | cons b r => rw [take_cons' b r (by omega)]; rfl
theorem esc_take (l : List UInt8) (c : Nat) (h : (esc l).2 < c) : esc (l.take c) = esc l := by
  cases l with
  | nil => rw [List.take_nil]
  | cons b r =>
    rw [esc_cons] at h
    rw [take_cons' b r (by omega), esc_cons, esc_cons]
    cases e : isOct b
    · rw [e] at h
      simp only [Bool.false_eq_true, if_false] at h ⊢
      by_cases h13 : (b == 13) = true
      · rw [if_pos h13] at h ⊢
        rw [if_pos h13, crlf_take r (c - 1) (by simp only [] at h; omega)]
      · rw [if_neg h13, if_neg h13]
    · rw [e] at h
      simp only [if_true] at h ⊢
      have := oct_take 3 0 (b :: r) c h
      rw [take_cons' b r (by omega)] at this
      rw [this]

theorem name_skip (acc : List UInt8) : ∀ (m : Nat) (l : List UInt8) (k : Nat), m ≤ l.length → nameGo acc m l k = nameGo acc 0 (l.drop m) (k + m)
  | 0, l, k, _ => rfl
  | m + 1, [], k, h => by simp at h
  | m + 1, b :: r, k, h => by
    rw [nameGo, name_skip acc m r (k + 1) (by simp at h; omega), List.drop_succ_cons]
    congr 1; omega

theorem name_take (acc : List UInt8) (m : Nat) (l : List UInt8) (k : Nat) (hm : m ≤ l.length) : (nameGo acc m l k).1 = 0 → nameGo acc m (l.take ((nameGo acc m l k).2.2 - k)) k = nameGo acc m l k := by
  fun_induction nameGo acc m l k with
  | case1 acc m k => intro _; obtain rfl : m = 0 := by simpa using hm
                     simp; unfold nameGo; rfl
  | case2 acc m b r k ih =>
    intro h
    have hr : m ≤ r.length := by simp at hm; omega
    have hb := (name_bd _ _ _ _ h).1
    have := ih hr h
    rw [take_cons' b r (by omega), nameGo, Nat.sub_sub, this]
  | case3 acc b k h1 h2 a c tail h3 ih =>
    intro h
    have hb := (name_bd _ _ _ _ h).1
    have hsk : k + 1 + 2 ≤ (nameGo (acc ++ [hexV a <<< 4 ||| hexV c]) 2 (a :: c :: tail) (k + 1)).2.2 := by
      rw [name_skip _ 2 (a :: c :: tail) _ (by simp)] at h ⊢
      exact (name_bd _ _ _ _ h).1
    have := ih (by simp) h
    generalize hR : nameGo (acc ++ [hexV a <<< 4 ||| hexV c]) 2 (a :: c :: tail) (k + 1) = R at *
    rw [take_cons' a _ (by omega), take_cons' c _ (by omega)] at this
    rw [take_cons' _ _ (by omega), take_cons' _ _ (by omega), take_cons' _ _ (by omega)]
    rw [nameGo.eq_def]
    simp only [h1, h2, h3, if_true]
    rw [show R.2.2 - k - 1 - 1 - 1 = R.2.2 - (k + 1) - 1 - 1 by omega]
    exact this
  | case4 => intro h; simp at h
  | case5 => intro h; simp at h
  | case6 acc b r k h1 h2 ih =>
    intro h
    have hb := (name_bd _ _ _ _ h).1
    have := ih (Nat.zero_le _) h
    rw [take_cons' b r (by omega), nameGo.eq_def]
    simp only [h1, h2, if_true, Bool.false_eq_true, if_false]
    rw [Nat.sub_sub, this]
  | case7 acc b r k h1 => intro _; simp; unfold nameGo; rfl

theorem text_gt (acc : List UInt8) (d m : Nat) (l : List UInt8) (k : Nat) (hm : m ≤ l.length) (h : (textGo acc d m l k).1 = 0) : k + m < (textGo acc d m l k).2.2 := by
  rw [text_pass acc d m l k hm] at h ⊢
  exact (text_bd _ _ _ _ _ h).1

theorem text_take (acc : List UInt8) (d m : Nat) (l : List UInt8) (k : Nat) : (textGo acc d m l k).1 = 0 → textGo acc d m (l.take ((textGo acc d m l k).2.2 - k)) k = textGo acc d m l k := by
  fun_induction textGo acc d m l k with
  | case1 => intro h; simp at h
  | case2 acc d m b r k ih =>
    intro h
    have hb := (text_bd _ _ _ _ _ h).1
    rw [take_cons' b r (by omega), textGo, Nat.sub_sub, ih h]
  | case3 acc d b r k h1 ih =>
    intro h
    have hb := (text_bd _ _ _ _ _ h).1
    have hg := text_gt _ _ _ _ _ esc_le h
    rw [take_cons' b r (by omega), textGo.eq_def]
    simp only [h1, if_true]
    rw [esc_take r _ (by omega), Nat.sub_sub, ih h]
  | case4 acc d b r k h1 h2 ih =>
    intro h
    have hb := (text_bd _ _ _ _ _ h).1
    rw [take_cons' b r (by omega), textGo.eq_def]
    simp only [h1, h2, if_true, Bool.false_eq_true, if_false]
    rw [Nat.sub_sub, ih h]
  | case5 acc b r k h1 h2 h3 =>
    intro h
    simp only [Nat.add_sub_cancel_left, List.take_succ_cons, List.take_zero]
    rw [textGo.eq_def]
    simp only [h1, h2, h3, if_true, Bool.false_eq_true, if_false]
  | case6 acc b r k h1 h2 h3 d ih =>
    intro h
    have hb := (text_bd _ _ _ _ _ h).1
    rw [take_cons' b r (by omega), textGo.eq_def]
    simp only [h1, h2, h3, if_true, Bool.false_eq_true, if_false]
    rw [Nat.sub_sub, ih h]
  | case7 acc d b r k h1 h2 h3 h4 ih =>
    intro h
    have hb := (text_bd _ _ _ _ _ h).1
    have hg := text_gt _ _ _ _ _ (crlf_le r) h
    rw [take_cons' b r (by omega), textGo.eq_def]
    simp only [h1, h2, h3, h4, if_true, Bool.false_eq_true, if_false]
    rw [crlf_take r _ (by omega), Nat.sub_sub, ih h]
  | case8 acc d b r k h1 h2 h3 h4 ih =>
    intro h
    have hb := (text_bd _ _ _ _ _ h).1
    rw [take_cons' b r (by omega), textGo.eq_def]
    simp only [h1, h2, h3, h4, Bool.false_eq_true, if_false]
    rw [Nat.sub_sub, ih h]

theorem hex_take (acc : List UInt8) (p : Option UInt8) (l : List UInt8) (k : Nat) : (hexGo acc p l k).1 = 0 → hexGo acc p (l.take ((hexGo acc p l k).2.2 - k)) k = hexGo acc p l k := by
  fun_induction hexGo acc p l k with
  | case1 => intro h; simp at h
  | case2 acc p b r k h1 =>
    intro h
    simp only [Nat.add_sub_cancel_left, List.take_succ_cons, List.take_zero]
    rw [hexGo.eq_def]
    simp only [h1, if_true]
  | case3 acc p b r k h1 h2 ih =>
    intro h
    have hb := (hex_bd _ _ _ _ h).1
    rw [take_cons' b r (by omega), hexGo.eq_def]
    simp only [h1, h2, if_true, Bool.false_eq_true, if_false]
    rw [Nat.sub_sub, ih h]
  | case4 acc b r k h1 h2 h3 ih =>
    intro h
    have hb := (hex_bd _ _ _ _ h).1
    rw [take_cons' b r (by omega), hexGo.eq_def]
    simp only [h1, h2, h3, if_true, Bool.false_eq_true, if_false]
    rw [Nat.sub_sub, ih h]
  | case5 acc b r k h1 h2 h3 u ih =>
    intro h
    have hb := (hex_bd _ _ _ _ h).1
    rw [take_cons' b r (by omega), hexGo.eq_def]
    simp only [h1, h2, h3, if_true, Bool.false_eq_true, if_false]
    rw [Nat.sub_sub, ih h]
  | case6 => intro h; simp at h

theorem tw_take' (p : UInt8 → Bool) : ∀ l : List UInt8, tw p (l.take (tw p l)) = tw p l
  | [] => rfl
  | b :: r => by
    cases h : p b
    · rw [show tw p (b :: r) = 0 by rw [tw, h]; rfl]; rfl
    · rw [show tw p (b :: r) = tw p r + 1 by rw [tw, if_pos h], List.take_succ_cons, tw, if_pos h, tw_take' p r]

/-- The token at the very begin, read alone. -/
theorem tok_alone (l : List UInt8) (hs : spc false l = 0) (h : (tokV l 0).1 = 0) : tokV (l.take (tokV l 0).2.to) 0 = tokV l 0 := by
  cases l with
  | nil => rw [List.take_nil]
  | cons b r =>
    have hpos : 0 < (tokV (b :: r) 0).2.to := by
      rcases tok_bd (b :: r) 0 (Nat.zero_le _) (by simpa using hs) h with ⟨h1, _⟩ | ⟨_, _, h3, _⟩
      · simp at h1
      · exact h3
    have hw : (wordV (b :: r) 0).1 = 0 → tokV (b :: r) 0 = wordV (b :: r) 0 → reg b = true → wordV ((b :: r).take (wordV (b :: r) 0).2.to) 0 = wordV (b :: r) 0 := by
      intro hw0 _ hreg
      have hto : (wordV (b :: r) 0).2.to = tw reg (b :: r) := by
        unfold wordV at hw0 ⊢
        simp only [List.drop_zero] at hw0 ⊢
        split
        · rename_i h1
          rw [if_pos h1] at hw0
          split
          · simp
          · rename_i h2; rw [if_neg h2] at hw0; exact absurd hw0 h2
        · simp
      rw [hto]
      unfold wordV
      simp only [List.drop_zero]
      have h1 : ((b :: r).take (tw reg (b :: r))).headD 0 = b := by
        rw [take_cons' b r (by unfold tw; rw [if_pos hreg]; omega)]; rfl
      rw [tw_take', List.take_take, Nat.min_self, h1]
      rfl
    have hreg : ∀ (_ : ¬(b == 91) = true) (_ : ¬(b == 93) = true) (_ : ¬(b == 60) = true) (_ : ¬(b == 62) = true) (_ : ¬(b == 47) = true) (_ : ¬(b == 40) = true) (_ : ¬(b == 41 || b == 123 || b == 125) = true), reg b = true := by
      intro h91 h93 h60 h62 h47 h40 h41
      have hwh : white b = false ∧ (b == 37) = false := by
        rw [spc] at hs
        cases e1 : white b
        · cases e2 : (b == 37)
          · exact ⟨rfl, rfl⟩
          · rw [e1, e2] at hs; simp at hs
        · rw [e1] at hs; simp at hs
      have := byte_all (fun c => white c || c == 91 || c == 93 || c == 60 || c == 62 || c == 47 || c == 40 || (c == 41 || c == 123 || c == 125) || c == 37 || reg c) (by kernel_rfl) b
      simp only [Bool.not_eq_true] at h91 h93 h60 h62 h47 h40 h41
      rw [hwh.1, h91, h93, h60, h62, h47, h40, h41, hwh.2] at this
      exact this
    rw [take_cons' b r hpos]
    unfold tokV at h hpos ⊢
    simp only [List.drop_zero] at h hpos ⊢
    by_cases h91 : (b == 91) = true
    · rw [if_pos h91, if_pos h91]
    rw [if_neg h91] at h hpos ⊢
    by_cases h93 : (b == 93) = true
    · rw [if_neg h91, if_pos h93, if_pos h93]
    rw [if_neg h93] at h hpos ⊢
    by_cases h60 : (b == 60) = true
    · rw [if_neg h91, if_neg h93, if_pos h60]
      rw [if_pos h60] at h hpos ⊢
      by_cases h2 : (r.head? == some 60) = true
      · rw [if_pos h2]
        obtain ⟨x, r', rfl⟩ : ∃ x r', r = x :: r' := by cases r with | nil => simp at h2 | cons x r' => exact ⟨x, r', rfl⟩
        rw [if_pos (by simpa using h2)]
      · rw [if_neg h2] at h hpos ⊢
        obtain ⟨e, he⟩ := ofR3_to h
        have hb := (hex_bd _ _ _ _ e).1
        have ht := hex_take _ _ _ _ e
        rw [he]
        simp only []
        rw [if_neg (by
          cases r with
          | nil => simp
          | cons x r' => rw [take_cons' x r' (by omega)]; simpa using h2), ht]
    rw [if_neg h60] at h hpos ⊢
    by_cases h62 : (b == 62) = true
    · rw [if_neg h91, if_neg h93, if_neg h60, if_pos h62]
      rw [if_pos h62] at h hpos ⊢
      by_cases h2 : (r.head? == some 62) = true
      · rw [if_pos h2]
        obtain ⟨x, r', rfl⟩ : ∃ x r', r = x :: r' := by cases r with | nil => simp at h2 | cons x r' => exact ⟨x, r', rfl⟩
        rw [if_pos (by simpa using h2)]
      · rw [if_neg h2] at h; simp at h
    rw [if_neg h62] at h hpos ⊢
    by_cases h47 : (b == 47) = true
    · rw [if_neg h91, if_neg h93, if_neg h60, if_neg h62, if_pos h47]
      rw [if_pos h47] at h hpos ⊢
      obtain ⟨e, he⟩ := ofR3_to h
      have hb := (name_bd _ _ _ _ e).1
      have ht := name_take _ _ _ _ (Nat.zero_le _) e
      rw [he]
      simp only []
      rw [ht]
    rw [if_neg h47] at h hpos ⊢
    by_cases h40 : (b == 40) = true
    · rw [if_neg h91, if_neg h93, if_neg h60, if_neg h62, if_neg h47, if_pos h40]
      rw [if_pos h40] at h hpos ⊢
      obtain ⟨e, he⟩ := ofR3_to h
      have hb := (text_bd _ _ _ _ _ e).1
      have ht := text_take _ _ _ _ _ e
      rw [he]
      simp only []
      rw [ht]
    rw [if_neg h40] at h hpos ⊢
    by_cases h41 : (b == 41 || b == 123 || b == 125) = true
    · rw [if_pos h41] at h; simp at h
    rw [if_neg h91, if_neg h93, if_neg h60, if_neg h62, if_neg h47, if_neg h40, if_neg h41]
    rw [if_neg h41] at h hpos ⊢
    have := hw h (by
      unfold tokV; simp only [List.drop_zero]
      rw [if_neg h91, if_neg h93, if_neg h60, if_neg h62, if_neg h47, if_neg h40, if_neg h41]) (hreg h91 h93 h60 h62 h47 h40 h41)
    rw [take_cons' b r hpos] at this
    exact this

/-- A token read alone. -/
theorem next_alone (l : List UInt8) (a : Int) (h : (nextV l a).1 = 0) :
    nextV ((l.drop (nextV l a).2.frm).take ((nextV l a).2.to - (nextV l a).2.frm)) 0 = (0, { (nextV l a).2 with frm := 0, to := (nextV l a).2.to - (nextV l a).2.frm }) := by
  unfold nextV at h
  by_cases hin : 0 ≤ a ∧ a ≤ (l.length : Int)
  · rw [if_pos hin] at h
    obtain ⟨b1, b2, b3⟩ := space_bd l a hin.1 hin.2
    by_cases he : (tokV l (spaceV l a)).1 = 0
    · have hn : nextV l a = (0, { (tokV l (spaceV l a)).2 with frm := spaceV l a }) := by
        unfold nextV; rw [if_pos hin, if_pos he]
      generalize hk : spaceV l a = k at *
      have hsh : tokV l k = addT k (tokV (l.drop k) 0) := by
        have := tok_shift (l.take k) (l.drop k) 0
        rw [List.take_append_drop, List.length_take, Nat.min_eq_left b2, Nat.zero_add] at this
        exact this
      have he0 : (tokV (l.drop k) 0).1 = 0 := by
        rw [hsh] at he
        unfold addT at he
        split at he
        · assumption
        · exact he
      have hto : (tokV l k).2.to = (tokV (l.drop k) 0).2.to + k := by rw [hsh]; unfold addT; rw [if_pos he0]
      have hal := tok_alone (l.drop k) b3 he0
      rw [hn]
      simp only []
      rw [hto, Nat.add_sub_cancel]
      have hsp : spc false ((l.drop k).take (tokV (l.drop k) 0).2.to) = 0 := by
        cases hd : l.drop k with
        | nil => rw [List.take_nil]; rfl
        | cons b r =>
          rw [hd] at b3 he0
          have hpos : 0 < (tokV (b :: r) 0).2.to := by
            rcases tok_bd (b :: r) 0 (Nat.zero_le _) (by simpa using b3) he0 with ⟨h1, _⟩ | ⟨_, _, h3, _⟩
            · simp at h1
            · exact h3
          rw [take_cons' b r hpos]
          rw [spc] at b3 ⊢
          split
          · rename_i hw; rw [if_pos hw] at b3; omega
          · rename_i hw
            rw [if_neg hw] at b3
            split
            · rename_i h37; rw [if_pos h37] at b3; omega
            · rfl
      rw [next_zero, hsp, hal, if_pos he0, hsh]
      unfold addT
      rw [if_pos he0]
    · rw [if_neg he] at h; exact absurd h he
  · rw [if_neg hin] at h; simp at h

end Go.Proofs.YtkpagahnmbchjaaGreatDoor.Lx
