/-
  An array of nulls, as 'make' lays it.
-/
import Derived.Test.YtdfgbdonnpbfcaaDoorWriteLimObj
import Derived.OwnWalk
namespace Go.Proofs.YtdfgbdonnpbfcaaDoor
open Go.RowKit Cx

def z6 : Array Value := #[.int .i64 0, .int .i64 0, .int .i64 0, .string ⟨#[]⟩, .slice none 0 0, .slice none 0 0]

theorem made_get (J i q : Nat) (hi : i < J) (hq : q < 6) : (madeCells z6 (J * 6))[i * 6 + q]? = z6[q]? := by
  unfold madeCells
  have h : i * 6 + q < J * 6 := by omega
  have hs : z6.size = 6 := rfl
  have hm : (i * 6 + q) % 6 = q := by omega
  simp only [Array.getElem?_map, Array.getElem?_range, h, if_true, Option.map_some, hs, hm]
  have : q = 0 ∨ q = 1 ∨ q = 2 ∨ q = 3 ∨ q = 4 ∨ q = 5 := by omega
  rcases this with rfl | rfl | rfl | rfl | rfl | rfl <;> rfl

theorem nulls_lies (J g base : Nat) (w : World) (hJ : J ≤ 2047) (h : w.ownsRow base 26 6 (.slice (some ⟨g, 0, none⟩) J J) J (madeCells z6 (J * 6)).toList) :
    Lies (Cel (fun _ => True) w) (nulls J) ⟨some ⟨g, 0, none⟩, J, none, 0⟩ := by
  obtain ⟨-, ⟨hv, -⟩ | ⟨b, cap, cur, hv, -, hh, -, -, -, hx⟩⟩ := h
  · cases hv
  · injection hv with hv _ _
    injection hv with hv
    injection hv with hv _ _
    subst hv
    refine .mk _ _ _ _ _ _ _ (fun _ => ⟨none, 0, none, 0⟩) (fun _ => ⟨none, 0, none, 0⟩) ⟨by rw [List.length_replicate]; unfold maxLen; omega, by decide, by decide⟩ (fun j hj => ?_) (fun j hj => ?_) (fun _ hi => absurd hi (Nat.not_lt_zero _)) (fun _ hi => absurd hi (Nat.not_lt_zero _)) (fun _ hi => absurd hi (Nat.not_lt_zero _))
    · rw [List.getElem_replicate]
      exact Lies.flat _ 0 0 0 ⟨#[]⟩ _ (Nat.zero_le _)
    · rw [List.length_replicate] at hj
      refine ⟨g, 0, rfl, fun q v hv => ⟨trivial, ?_⟩⟩
      rw [List.getElem_replicate] at hv
      have hq : q < 6 := by
        rcases Nat.lt_or_ge q 6 with h | h
        · exact h
        · rw [List.getElem?_eq_none h] at hv; cases hv
      have e : cur[j * 6 + q]? = z6[q]? := by
        rw [← made_get J j q hj hq, ← Array.getElem?_toList, ← Array.getElem?_toList (xs := madeCells z6 (J * 6)), ← hx, List.getElem?_take, if_pos (by omega)]
      have hz : z6[q]? = some v := by
        have : q = 0 ∨ q = 1 ∨ q = 2 ∨ q = 3 ∨ q = 4 ∨ q = 5 := by omega
        rcases this with rfl | rfl | rfl | rfl | rfl | rfl <;> exact hv
      rw [hz] at e
      rw [Nat.zero_add]
      simp [World.cell?, hh, e]

end Go.Proofs.YtdfgbdonnpbfcaaDoor
