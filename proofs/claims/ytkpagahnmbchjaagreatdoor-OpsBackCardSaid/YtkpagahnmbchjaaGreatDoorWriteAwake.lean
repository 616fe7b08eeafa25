/-
  The document's examples of layer 5: what the laws ask first is so.
-/
import Derived.Test.YtkpagahnmbchjaaGreatDoorWriteInd0
namespace Go.Proofs.YtkpagahnmbchjaaGreatDoor
open Go.RowKit Cx
set_option linter.unusedSimpArgs false
set_option linter.unusedVariables false

def aw1 : Ob := .mk 2 1 1000 ⟨#[]⟩ [] []
def aw2 : Ob := .mk 3 0 0 ⟨#[65]⟩ [] []
def awA : Ob := .mk 5 0 0 ⟨#[]⟩ [aw1, aw2] []

theorem aw1_ok : Ob.Ok aw1 := .mk _ _ _ _ _ _ (by decide) (by decide) (by decide) (by decide) (by decide) (fun x h => by cases h) (fun x h => by cases h) (fun x h => by cases h)
theorem aw2_ok : Ob.Ok aw2 := .mk _ _ _ _ _ _ (by decide) (by decide) (by decide) (by decide) (by decide) (fun x h => by cases h) (fun x h => by cases h) (fun x h => by cases h)
theorem awA_ok : Ob.Ok awA := .mk _ _ _ _ _ _ (by decide) (by decide) (by decide) (by decide) (by decide) (fun x h => by
  simp only [List.mem_cons, List.not_mem_nil, or_false] at h
  rcases h with rfl | rfl
  · exact aw1_ok
  · exact aw2_ok) (fun x h => by cases h) (fun x h => by cases h)
theorem awA_T : objT awA = [91, 49, 32, 47, 65, 93] := by kernel_rfl
theorem awA_E : objE awA = 0 := by kernel_rfl
theorem awA_S : awA.sane 0 = 0 := by kernel_rfl
theorem awN_T : (Ob.mk 0 0 0 ⟨#[]⟩ [] []).text = [110, 117, 108, 108] := by kernel_rfl
theorem awN_S : (Ob.mk 0 0 0 ⟨#[]⟩ [] []).sane 0 = 0 := by kernel_rfl
theorem aw9_S : (Ob.mk 9 0 0 ⟨#[]⟩ [] []).sane 0 = 1 := by kernel_rfl
theorem awN_ok : Ob.Ok (.mk 0 0 0 ⟨#[]⟩ [] []) := .mk _ _ _ _ _ _ (by decide) (by decide) (by decide) (by decide) (by decide) (fun x h => by cases h) (fun x h => by cases h) (fun x h => by cases h)
theorem awA_len : awA.text.length = 6 := by kernel_rfl

theorem awA_lies (b : Nat) (w : World) (h : Blk w b #[.int .i64 2, .int .i64 1, .int .i64 1000, .string ⟨#[]⟩, .slice none 0 0, .slice none 0 0, .int .i64 3, .int .i64 0, .int .i64 0, .string ⟨#[65]⟩, .slice none 0 0, .slice none 0 0] 32) :
    Lies (Cel (fun _ => True) w) awA ⟨some ⟨b, 0, none⟩, 2, none, 0⟩ := by
  refine .mk _ _ _ _ _ _ _ (fun _ => ⟨none, 0, none, 0⟩) (fun _ => ⟨none, 0, none, 0⟩) ⟨by decide, by decide, by decide⟩ (fun i hi => ?_) (fun i hi => ?_) (fun _ hi => absurd hi (Nat.not_lt_zero _)) (fun _ hi => absurd hi (Nat.not_lt_zero _)) (fun _ hi => absurd hi (Nat.not_lt_zero _))
  · have : i = 0 ∨ i = 1 := by simp at hi; omega
    rcases this with rfl | rfl
    · exact Lies.flat _ 2 1 1000 ⟨#[]⟩ _ (Nat.zero_le _)
    · exact Lies.flat _ 3 0 0 ⟨#[65]⟩ _ (by decide)
  · refine ⟨b, 0, rfl, fun j v hv => ⟨trivial, ?_⟩⟩
    rw [h.cell]
    have : i = 0 ∨ i = 1 := by simp at hi; omega
    have hj : j < 6 := by
      rcases Nat.lt_or_ge j 6 with h | h
      · exact h
      · rw [List.getElem?_eq_none h] at hv; cases hv
    have hj : j = 0 ∨ j = 1 ∨ j = 2 ∨ j = 3 ∨ j = 4 ∨ j = 5 := by omega
    rcases this with rfl | rfl
    · rcases hj with rfl | rfl | rfl | rfl | rfl | rfl <;> exact hv
    · rcases hj with rfl | rfl | rfl | rfl | rfl | rfl <;> exact hv

theorem awObject (w : World) (hf : Fine w) (b : Nat) (h : Blk w b #[.int .i64 2, .int .i64 1, .int .i64 1000, .string ⟨#[]⟩, .slice none 0 0, .slice none 0 0, .int .i64 3, .int .i64 0, .int .i64 0, .string ⟨#[65]⟩, .slice none 0 0, .slice none 0 0] 32) :
    Calls Tryz.prog 29 #[.agg #[.int .i64 5, .int .i64 0, .int .i64 0, .string ⟨#[]⟩, .slice (some ⟨b, 0, none⟩) 2 2, .slice none 0 0]] w fun e w' => e = .returned (.tuple #[.string ⟨#[91, 49, 32, 47, 65, 93]⟩, .int .i64 0]) ∧ Kept w w' := by
  have h := ObjectW_any (fun _ => True) awA ⟨some ⟨b, 0, none⟩, 2, none, 0⟩ w (awA_lies b w h) hf (fun _ => awA_ok) (fun _ => by rw [awA_len]; decide)
  rw [awA_T, awA_E] at h
  exact h

theorem awSane (w : World) :
    Calls Tryz.prog 38 #[.agg #[.int .i64 9, .int .i64 0, .int .i64 0, .string ⟨#[]⟩, .slice none 0 0, .slice none 0 0]] w fun e w' => e = .returned (.int .i64 1) ∧ Kept w w' := by
  have h := SaneW_any (fun _ => True) (.mk 9 0 0 ⟨#[]⟩ [] []) ⟨none, 0, none, 0⟩ w (Lies.flat _ 9 0 0 ⟨#[]⟩ _ (Nat.zero_le _))
  rw [aw9_S] at h
  exact h

end Go.Proofs.YtkpagahnmbchjaaGreatDoor
