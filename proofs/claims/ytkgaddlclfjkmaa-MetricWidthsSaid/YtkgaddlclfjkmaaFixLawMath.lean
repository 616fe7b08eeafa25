/-
  Plain numbers behind the laws of package fix: order, signs, nearness.
-/
import Derived.Test.YtkgaddlclfjkmaaFixMath
namespace Go.Proofs.Ytkgaddlclfjkmaa.Fx

theorem add_turn (a b : Int) : addV b a = addV a b ∧ addE b a = addE a b := by
  unfold addV addE
  rw [Int.add_comm b a]
  exact ⟨by simp only [and_comm (a := saneB b = true)], by simp only [and_comm (a := saneB b = true)]⟩
theorem mul_turn (a b : Int) : mulV b a = mulV a b ∧ mulE b a = mulE a b := by
  unfold mulV mulE
  rw [Int.mul_comm b a]
  exact ⟨by simp only [and_comm (a := saneB b = true)], by simp only [and_comm (a := saneB b = true)]⟩
theorem chk_neg (x : Int) : chkV (-x) = -(chkV x) ∧ chkE (-x) = chkE x := by
  unfold chkV chkE
  by_cases h : saneB x = true
  · have h' : saneB (-x) = true := by rw [sane_iff] at *; omega
    rw [if_pos h, if_pos h', if_pos h, if_pos h']; exact ⟨rfl, rfl⟩
  · have h' : ¬ saneB (-x) = true := by rw [sane_iff] at *; omega
    rw [if_neg h, if_neg h', if_neg h, if_neg h']; exact ⟨rfl, rfl⟩
theorem sub_turn (a b : Int) : subV b a = -(subV a b) ∧ subE b a = subE a b := by
  unfold subV subE
  have e : b - a = -(a - b) := by omega
  rw [e, (chk_neg (a - b)).1, (chk_neg (a - b)).2]
  by_cases h : saneB a = true ∧ saneB b = true
  · rw [if_pos h, if_pos h, if_pos h.symm, if_pos h.symm]; exact ⟨rfl, rfl⟩
  · rw [if_neg h, if_neg h, if_neg (fun k => h k.symm), if_neg (fun k => h k.symm)]; exact ⟨rfl, rfl⟩
theorem chkV_bd (x : Int) : -2147483648 ≤ chkV x ∧ chkV x ≤ 2147483648 := by
  unfold chkV
  split
  · rename_i h; exact sane_iff.1 h
  · omega
theorem subV_bd (a b : Int) : -2147483648 ≤ subV a b ∧ subV a b ≤ 2147483648 := by
  unfold subV; split
  · exact chkV_bd _
  · omega
theorem addV_bd (a b : Int) : -2147483648 ≤ addV a b ∧ addV a b ≤ 2147483648 := by
  unfold addV; split
  · exact chkV_bd _
  · omega
theorem chkE_or (x : Int) : chkE x = 0 ∧ saneB x = true ∧ chkV x = x ∨ chkE x = 2 ∧ saneB x = false ∧ chkV x = 0 := by
  unfold chkE chkV
  cases h : saneB x
  · exact .inr ⟨rfl, rfl, rfl⟩
  · exact .inl ⟨rfl, rfl, rfl⟩
theorem addE_or (a b : Int) : addE a b = 0 ∧ saneB a = true ∧ saneB b = true ∧ saneB (a + b) = true ∧ addV a b = a + b ∨ addE a b = 2 := by
  unfold addE addV
  by_cases h : saneB a = true ∧ saneB b = true
  · rw [if_pos h, if_pos h]
    rcases chkE_or (a + b) with ⟨h1, h2, h3⟩ | ⟨h1, _, _⟩
    · exact .inl ⟨h1, h.1, h.2, h2, h3⟩
    · exact .inr h1
  · rw [if_neg h]; exact .inr rfl
/-- What is added and taken away again is gone. -/
theorem add_sub {a b : Int} (ha : saneB a = true) (hb : saneB b = true) (hs : saneB (a + b) = true) : subV (a + b) b = a ∧ subE (a + b) b = 0 := by
  unfold subV subE
  rw [if_pos ⟨hs, hb⟩, if_pos ⟨hs, hb⟩, show a + b - b = a by omega]
  unfold chkV chkE
  rw [if_pos ha, if_pos ha]; exact ⟨rfl, rfl⟩

end Go.Proofs.Ytkgaddlclfjkmaa.Fx
