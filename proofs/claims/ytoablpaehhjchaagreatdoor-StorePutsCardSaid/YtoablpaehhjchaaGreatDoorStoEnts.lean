import Derived.Test.YtoablpaehhjchaaGreatDoorStoM
import Derived.Test.YtoablpaehhjchaaGreatDoorCosFB
namespace Go.Proofs.YtoablpaehhjchaaGreatDoor.Sx
open Lx Cx Rx
set_option linter.unusedSimpArgs false
set_option linter.unusedVariables false

def Eb (e : Xent) : Prop := 0 ≤ e.n ∧ e.n ≤ 4096 ∧ 0 ≤ e.off ∧ e.off ≤ 2147483 ∧ 0 ≤ e.gen ∧ e.gen ≤ 2147483
theorem entX_val {l : List UInt8} {a n : Int} (h : (entX l a n).1 = 0) : (entX l a n).2.1.n = n ∧ 0 ≤ (entX l a n).2.1.off ∧ (entX l a n).2.1.off ≤ 2147483 ∧ 0 ≤ (entX l a n).2.1.gen ∧ (entX l a n).2.1.gen ≤ 2147483 := by
  unfold entX at h ⊢
  by_cases h1 : (wholeX l a).1 = 0
  · rw [if_pos h1] at h ⊢
    obtain ⟨-, -, -, w3, w4⟩ := wholeX_ok h1
    by_cases h2 : (wholeX l (wholeX l a).2.2).1 = 0
    · rw [if_pos h2] at h ⊢
      obtain ⟨-, -, -, v3, v4⟩ := wholeX_ok h2
      unfold entT at h ⊢
      by_cases h3 : (tokX l (wholeX l (wholeX l a).2.2).2.2).1 = 0
      · rw [if_pos h3] at h ⊢
        by_cases h4 : (isWd (tokX l (wholeX l (wholeX l a).2.2).2.2).2 [110] || isWd (tokX l (wholeX l (wholeX l a).2.2).2.2).2 [102]) = true
        · rw [if_pos h4]; exact ⟨rfl, w3, w4, v3, v4⟩
        · rw [if_neg h4] at h; exact absurd h (by decide)
      · rw [if_neg h3] at h; exact absurd h h3
    · rw [if_neg h2] at h; exact absurd h h2
  · rw [if_neg h1] at h; exact absurd h h1
theorem secG_eb {l : List UInt8} : ∀ (n : Nat) (first : Int) (a : Nat) (acc : List Xent), 0 ≤ first → (n = 0 ∨ first + n ≤ 4096) → (∀ e ∈ acc, Eb e) → ∀ e ∈ (secG l n first a acc).2.1, Eb e
  | 0, _, _, acc, _, _, h => by rw [secG]; exact h
  | n + 1, first, a, acc, h0, hn, h => by
    rw [secG]
    split
    · rename_i h1
      obtain ⟨v1, v2, v3, v4, v5⟩ := entX_val h1
      refine secG_eb n (first + 1) _ _ (by omega) (by omega) (fun e he => ?_)
      rcases List.mem_append.1 he with he | he
      · exact h e he
      · rw [List.mem_singleton.1 he]; exact ⟨by omega, by omega, v2, v3, v4, v5⟩
    · intro e he; cases he
theorem secX_eb {l : List UInt8} {first : Int} {a : Nat} (h0 : 0 ≤ first) : ∀ e ∈ (secX l first a).2.1, Eb e := by
  unfold secX
  split
  · rename_i h1
    obtain ⟨-, -, -, w3, w4⟩ := wholeX_ok h1
    split
    · intro e he; cases he
    · rename_i h2
      exact secG_eb _ _ _ _ h0 (by omega) (fun e he => by cases he)
  · intro e he; cases he
theorem entsG_eb {l : List UInt8} : ∀ (F : Nat) (a : Nat) (acc : List Xent), (∀ e ∈ acc, Eb e) → ∀ e ∈ (entsG l F a acc).2.1, Eb e
  | 0, _, _, _ => by rw [entsG]; intro e he; cases he
  | F + 1, a, acc, h => by
    rw [entsG]
    split
    · split
      · exact h
      · split
        · rename_i h3
          split
          · refine entsG_eb F _ _ (fun e he => ?_)
            rcases List.mem_append.1 he with he | he
            · exact h e he
            · refine secX_eb ?_ e he
              have := (isWh_iff.1 h3).2.2
              rw [Int.tdiv_eq_ediv_of_nonneg this]; omega
          · intro e he; cases he
        · intro e he; cases he
    · intro e he; cases he
theorem parse_eb (l : List UInt8) (a : Int) : ∀ e ∈ (parseX l a).2.1, Eb e := by
  unfold parseX
  split
  · split
    · split
      · unfold entsX
        split
        · split
          · exact entsG_eb _ _ _ (fun e he => by cases he)
          · intro e he; cases he
        · intro e he; cases he
      · intro e he; cases he
    · intro e he; cases he
  · intro e he; cases he
theorem table_eb (l : List UInt8) (met : List Int) (a : Int) : ∀ e ∈ (tableV l met a).2.1, Eb e := by
  unfold tableV
  split
  · intro e he; cases he
  · split
    · intro e he; cases he
    · exact parse_eb l a
theorem tabs_eb (l : List UInt8) : ∀ (F : Nat) (met : List Int) (acc : List Xent) (last : Ob), (∀ e ∈ acc, Eb e) → ∀ e ∈ (tabsG l F met acc last).2, Eb e
  | 0, _, _, _, _ => by rw [tabsG]; intro e he; cases he
  | F + 1, met, acc, last, h => by
    rw [tabsG]
    split
    · split
      · refine tabs_eb l F _ _ _ (fun e he => ?_)
        rcases List.mem_append.1 he with he | he
        · exact h e he
        · exact table_eb l _ _ e he
      · intro e he; cases he
    · exact h
theorem tablesV_eb (l : List UInt8) : ∀ e ∈ (tablesV l).2.1, Eb e := by
  unfold tablesV
  split
  · split
    · split
      · exact tabs_eb l _ _ _ _ (table_eb l _ _)
      · intro e he; cases he
    · intro e he; cases he
  · intro e he; cases he

theorem parse_fb (l : List UInt8) (a : Int) (key : ByteArray) : FB (Cx.get (parseX l a).2.2 key) := by
  have hn : FB (Cx.get nul key) := by unfold Cx.get; split; exact fb_nul; exact fb_nul
  unfold parseX
  split
  · split
    · split
      · exact (fb_parse l _).2 key
      · exact hn
    · exact hn
  · exact hn
theorem table_fb (l : List UInt8) (met : List Int) (a : Int) (key : ByteArray) : FB (Cx.get (tableV l met a).2.2 key) := by
  have hn : FB (Cx.get nul key) := by unfold Cx.get; split; exact fb_nul; exact fb_nul
  unfold tableV
  split
  · exact hn
  · split
    · exact hn
    · exact parse_fb l a key

theorem start_ok {l : List UInt8} (h : (startX l).1 = 0) : 0 ≤ (startX l).2 ∧ (startX l).2 ≤ l.length := by
  unfold startX at h ⊢
  split at h
  · exact absurd h (by decide)
  · split at h
    · exact absurd h (by decide)
    · rename_i h1 h2
      rw [if_neg h1, if_neg h2]
      split at h
      · rename_i h3
        rw [if_pos h3]
        split at h
        · exact absurd h (by decide)
        · rename_i h4
          rw [if_neg h4]
          have := wholeX_ok h3
          exact ⟨this.2.2.2.1, by simp only []; omega⟩
      · rename_i h3; exact absurd h h3

end Go.Proofs.YtoablpaehhjchaaGreatDoor.Sx
