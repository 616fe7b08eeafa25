import Derived.Test.YtoablpaehhjchaaGreatDoorLexM
namespace Go.Proofs.YtoablpaehhjchaaGreatDoor.Cx
open Lx
set_option linter.unusedSimpArgs false
set_option linter.unusedVariables false

def FB (o : Ob) : Prop := -2147483648 ≤ o.f ∧ o.f ≤ 2147483648
theorem fb_nul : FB nul := ⟨by decide, by decide⟩
theorem fb_zero (k n : Int) (s : ByteArray) (l : List Ob) (d : List Entr) : FB (.mk k n 0 s l d) := ⟨(by decide : (-2147483648 : Int) ≤ 0), (by decide : (0 : Int) ≤ 2147483648)⟩
theorem fb_number (l : List UInt8) (t : Tok) (ht : -2147483648 ≤ t.f ∧ t.f ≤ 2147483648) : FB (numberV l t).1 := by
  have htok : ∀ a, -2147483648 ≤ (tokOf (nextV l a)).f ∧ (tokOf (nextV l a)).f ≤ 2147483648 := fun a => by
    unfold tokOf
    split
    · exact ⟨(next_len l a).1, (next_len l a).2.1⟩
    · exact ⟨by decide, by decide⟩
  unfold numberV
  split
  · split
    · split
      · exact htok _
      · exact ht
    · exact ht
  · exact ht
theorem fb_obj (F : Nat) (l : List UInt8) (dep : Nat) (t : Tok) (ht : -2147483648 ≤ t.f ∧ t.f ≤ 2147483648) : FB (objOf F l dep t).2.1 := by
  cases F with
  | zero => rw [objOf]; exact fb_nul
  | succ F =>
    rw [objOf]
    split
    · exact fb_nul
    · split
      · exact fb_number l t ht
      · split
        · exact fb_zero _ _ _ _ _
        · split
          · exact fb_zero _ _ _ _ _
          · split
            · unfold wordV
              repeat' split
              all_goals first | exact fb_zero _ _ _ _ _ | exact fb_nul
            · split
              · split
                · exact fb_nul
                · split
                  · exact fb_zero _ _ _ _ _
                  · exact fb_nul
              · split
                · split
                  · exact fb_nul
                  · split
                    · exact fb_zero _ _ _ _ _
                    · exact fb_nul
                · exact fb_nul
theorem fb_next (l : List UInt8) (a : Int) : -2147483648 ≤ (nextV l a).2.f ∧ (nextV l a).2.f ≤ 2147483648 := ⟨(next_len l a).1, (next_len l a).2.1⟩
theorem fb_ent (F : Nat) (l : List UInt8) (dep : Nat) (t : Tok) : FB (entOf F l dep t).2.1.2 := by
  cases F with
  | zero => rw [entOf]; exact fb_nul
  | succ F =>
    rw [entOf]
    split
    · exact fb_nul
    · split
      · exact fb_nul
      · split
        · exact fb_obj F l dep _ (fb_next l _)
        · exact fb_nul
theorem fb_upE (l : List UInt8) : ∀ (F dep : Nat) (acc : List Entr) (k : Nat), (∀ e ∈ acc, FB e.2) → ∀ e ∈ (upE F l dep acc k).2.1, FB e.2
  | 0, _, _, _, _ => by rw [upE]; intro e he; cases he
  | F + 1, dep, acc, k, h => by
    rw [upE]
    split
    · intro e he; cases he
    · split
      · exact h
      · split
        · intro e he; cases he
        · split
          · intro e he; cases he
          · split
            · refine fb_upE l F dep _ _ fun e he => ?_
              rcases List.mem_append.1 he with he | he
              · exact h e he
              · rw [List.mem_singleton.1 he]; exact fb_ent F l dep _
            · intro e he; cases he
theorem setGo_mem (key : ByteArray) (v : Ob) : ∀ (b : Bool) (d : List Entr) (e : Entr), e ∈ setGo key v b d → e ∈ d ∨ e = (key, v)
  | b, [], e, h => by
    rw [setGo] at h
    split at h
    · cases h
    · exact .inr (List.mem_singleton.1 h)
  | b, x :: r, e, h => by
    rw [setGo] at h
    split at h
    · split at h
      · rcases setGo_mem key v b r e h with h | h
        · exact .inl (List.mem_cons_of_mem _ h)
        · exact .inr h
      · rcases List.mem_cons.1 h with h | h
        · exact .inr h
        · rcases setGo_mem key v true r e h with h | h
          · exact .inl (List.mem_cons_of_mem _ h)
          · exact .inr h
    · rcases List.mem_cons.1 h with h | h
      · exact .inl (by rw [h]; exact List.mem_cons_self)
      · rcases setGo_mem key v b r e h with h | h
        · exact .inl (List.mem_cons_of_mem _ h)
        · exact .inr h
theorem settle_fb : ∀ (d acc : List Entr), (∀ e ∈ acc, FB e.2) → (∀ e ∈ d, FB e.2) → ∀ e ∈ d.foldl (fun a e => setD a e.1 e.2) acc, FB e.2
  | [], _, h, _ => h
  | x :: r, acc, h, hd => by
    rw [List.foldl_cons]
    refine settle_fb r _ (fun e he => ?_) (fun e he => hd e (List.mem_cons_of_mem _ he))
    rcases setGo_mem x.1 x.2 _ acc e he with he | he
    · exact h e he
    · rw [he]; exact hd x List.mem_cons_self
theorem fb_objD (F : Nat) (l : List UInt8) (dep : Nat) (t : Tok) : ∀ e ∈ (objOf F l dep t).2.1.d, FB e.2 := by
  cases F with
  | zero => rw [objOf]; intro e he; cases he
  | succ F =>
    rw [objOf]
    split
    · intro e he; cases he
    · split
      · unfold numberV
        repeat' split
        all_goals (intro e he; cases he)
      · split
        · intro e he; cases he
        · split
          · intro e he; cases he
          · split
            · unfold wordV
              repeat' split
              all_goals (intro e he; cases he)
            · split
              · repeat' split
                all_goals (intro e he; cases he)
              · split
                · split
                  · intro e he; cases he
                  · split
                    · exact settle_fb _ [] (fun e he => by cases he) (fb_upE l F _ [] _ (fun e he => by cases he))
                    · intro e he; cases he
                · intro e he; cases he
theorem getD_fb : ∀ (d : List Entr) (key : ByteArray), (∀ e ∈ d, FB e.2) → FB (getD d key)
  | [], _, _ => fb_nul
  | e :: r, key, h => by
    rw [getD]
    split
    · exact h e List.mem_cons_self
    · exact getD_fb r key (fun x hx => h x (List.mem_cons_of_mem _ hx))

theorem fb_parse (l : List UInt8) (a : Int) : FB (parse l a).2.1 ∧ ∀ key, FB (get (parse l a).2.1 key) := by
  unfold parse
  split
  · refine ⟨fb_nul, fun key => ?_⟩
    unfold get; split
    · exact getD_fb _ key (fun e he => by cases he)
    · exact fb_nul
  · refine ⟨fb_obj _ l 0 _ (fb_next l a), fun key => ?_⟩
    unfold get; split
    · exact getD_fb _ key (fb_objD _ l 0 _)
    · exact fb_nul

end Go.Proofs.YtoablpaehhjchaaGreatDoor.Cx
