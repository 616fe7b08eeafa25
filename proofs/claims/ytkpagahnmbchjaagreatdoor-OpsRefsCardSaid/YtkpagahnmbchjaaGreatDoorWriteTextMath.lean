/-
  What a Str's and a Name's text are made of. Nothing of the program is named here.
-/
import Derived.Test.YtkpagahnmbchjaaGreatDoorLexNameOf
import Derived.Test.YtkpagahnmbchjaaGreatDoorLexQuote
namespace Go.Proofs.YtkpagahnmbchjaaGreatDoor

theorem quoteB_pr (c : UInt8) : ((Lx.quoteB c).all fun b => decide (32 ≤ b.toNat) && decide (b.toNat ≤ 126)) = true ∧ 1 ≤ (Lx.quoteB c).length := by
  have := Lx.byte_all (fun c => ((Lx.quoteB c).all fun b => decide (32 ≤ b.toNat) && decide (b.toNat ≤ 126)) && decide (1 ≤ (Lx.quoteB c).length)) (by kernel_rfl) c
  rw [Bool.and_eq_true] at this
  exact ⟨this.1, of_decide_eq_true this.2⟩

/-- Neither white nor a delimiter, and printed. -/
def plainB (b : UInt8) : Bool := decide (33 ≤ b.toNat) && decide (b.toNat ≤ 126) && (b != 47 && b != 40 && b != 41 && b != 60 && b != 62 && b != 91 && b != 93 && b != 123 && b != 125 && b != 37)

theorem nameB_pr (c : UInt8) : ((Lx.nameB c).all plainB) = true ∧ 1 ≤ (Lx.nameB c).length := by
  have := Lx.byte_all (fun c => ((Lx.nameB c).all plainB) && decide (1 ≤ (Lx.nameB c).length)) (by kernel_rfl) c
  rw [Bool.and_eq_true] at this
  exact ⟨this.1, of_decide_eq_true this.2⟩

theorem flat_le (f : UInt8 → List UInt8) (h : ∀ c, 1 ≤ (f c).length ∧ (f c).length ≤ 4) : ∀ (l : List UInt8), l.length ≤ (l.flatMap f).length ∧ (l.flatMap f).length ≤ 4 * l.length
  | [] => by simp
  | c :: l => by
    have := flat_le f h l
    have := h c
    rw [List.flatMap_cons, List.length_append, List.length_cons]
    omega

theorem ba_mem (l : List UInt8) (k : Nat) (h : k < (⟨l.toArray⟩ : ByteArray).size) : (⟨l.toArray⟩ : ByteArray)[k] ∈ l := by
  show l.toArray[k] ∈ l
  rw [List.getElem_toArray]
  exact List.getElem_mem _

theorem text_str (s : ByteArray) (hs : s.size ≤ 500) : ∃ A : ByteArray, A = ⟨(Lx.quoteV s.data.toList).toArray⟩ ∧ s.size + 2 ≤ A.size ∧ A.size ≤ 5000 ∧ (∀ k (h : k < A.size), 32 ≤ A[k].toNat ∧ A[k].toNat ≤ 126) ∧ (∀ h : 0 < A.size, A[0] = 40) ∧ (∀ h : A.size - 1 < A.size, A[A.size - 1] = 41) := by
  have hl : s.data.toList.length = s.size := Array.length_toList
  have hf := flat_le Lx.quoteB (fun c => ⟨(quoteB_pr c).2, quoteB_len c⟩) s.data.toList
  have hsz : (⟨(Lx.quoteV s.data.toList).toArray⟩ : ByteArray).size = (s.data.toList.flatMap Lx.quoteB).length + 2 := by
    show (Lx.quoteV s.data.toList).toArray.size = _
    rw [List.size_toArray]; unfold Lx.quoteV; simp
  refine ⟨_, rfl, by omega, by omega, fun k h => ?_, fun _ => rfl, fun h => ?_⟩
  · have hm := ba_mem _ k h
    generalize (⟨(Lx.quoteV s.data.toList).toArray⟩ : ByteArray)[k] = b at hm
    unfold Lx.quoteV at hm
    rw [List.mem_cons, List.mem_append, List.mem_flatMap, List.mem_singleton] at hm
    rcases hm with rfl | ⟨c, -, hb⟩ | rfl
    · decide
    · have := List.all_eq_true.1 (quoteB_pr c).1 b hb
      rw [Bool.and_eq_true] at this
      exact ⟨of_decide_eq_true this.1, of_decide_eq_true this.2⟩
    · decide
  · have e : ∀ (M : List UInt8) (k : Nat) (hk : k < (⟨(40 :: (M ++ [41])).toArray⟩ : ByteArray).size), k = M.length + 1 → (⟨(40 :: (M ++ [41])).toArray⟩ : ByteArray)[k] = 41 := by
      intro M k hk e
      subst e
      show (40 :: (M ++ [41])).toArray[M.length + 1] = 41
      rw [List.getElem_toArray]
      simp
    exact e (s.data.toList.flatMap Lx.quoteB) _ h (by rw [hsz]; omega)

theorem text_name (s : ByteArray) (hs : s.size ≤ 500) : ∃ A : ByteArray, A = ⟨(Lx.nameV s.data.toList).toArray⟩ ∧ s.size + 1 ≤ A.size ∧ A.size ≤ 5000 ∧ (∀ k (h : k < A.size), 1 ≤ k → plainB A[k] = true) ∧ (∀ h : 0 < A.size, A[0] = 47) := by
  have hl : s.data.toList.length = s.size := Array.length_toList
  have hf := flat_le Lx.nameB (fun c => ⟨(nameB_pr c).2, nameB_len c⟩) s.data.toList
  have hsz : (⟨(Lx.nameV s.data.toList).toArray⟩ : ByteArray).size = (s.data.toList.flatMap Lx.nameB).length + 1 := by
    show (Lx.nameV s.data.toList).toArray.size = _
    rw [List.size_toArray]; unfold Lx.nameV; simp
  refine ⟨_, rfl, by omega, by omega, fun k h hk => ?_, fun _ => rfl⟩
  have e : ∀ (M : List UInt8) (k : Nat) (hk : k < (⟨(47 :: M).toArray⟩ : ByteArray).size), 1 ≤ k → (⟨(47 :: M).toArray⟩ : ByteArray)[k] ∈ M := by
    intro M k hk e
    obtain ⟨j, rfl⟩ : ∃ j, k = j + 1 := ⟨k - 1, by omega⟩
    show (47 :: M).toArray[j + 1] ∈ M
    rw [List.getElem_toArray, List.getElem_cons_succ]
    exact List.getElem_mem _
  have hm := e (s.data.toList.flatMap Lx.nameB) k h hk
  rw [List.mem_flatMap] at hm
  obtain ⟨c, -, hb⟩ := hm
  exact List.all_eq_true.1 (nameB_pr c).1 _ hb

end Go.Proofs.YtkpagahnmbchjaaGreatDoor
