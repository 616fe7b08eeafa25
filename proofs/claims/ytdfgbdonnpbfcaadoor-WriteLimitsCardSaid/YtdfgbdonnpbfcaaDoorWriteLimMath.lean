/-
  Arrays in one another, and arrays of nulls: may they be written, and how long are they?
-/
import Derived.Test.YtdfgbdonnpbfcaaDoorWriteAwake
namespace Go.Proofs.YtdfgbdonnpbfcaaDoor
open Cx

/-- So many arrays about 'true'. -/
def chain : Nat → Ob
  | 0 => .mk 1 1 0 ⟨#[]⟩ [] []
  | k + 1 => .mk 5 0 0 ⟨#[]⟩ [chain k] []
theorem chain_succ (k : Nat) : chain (k + 1) = .mk 5 0 0 ⟨#[]⟩ [chain k] [] := rfl
def nul : Ob := .mk 0 0 0 ⟨#[]⟩ [] []
def nulls (j : Nat) : Ob := .mk 5 0 0 ⟨#[]⟩ (List.replicate j nul) []

theorem chain_ok : ∀ k, Ob.Ok (chain k)
  | 0 => .mk _ _ _ _ _ _ (by decide) (by decide) (by decide) (by decide) (by decide) (fun x h => by cases h) (fun x h => by cases h) (fun x h => by cases h)
  | k + 1 => .mk _ _ _ _ _ _ (by decide) (by decide) (by decide) (show 1 ≤ 4294967296 by decide) (by decide) (fun x h => by rw [List.mem_singleton] at h; subst h; exact chain_ok k) (fun x h => by cases h) (fun x h => by cases h)

theorem chain0_sane (dep : Nat) : (chain 0).sane dep = 0 := by
  unfold chain
  rw [sane_mk]
  rfl
theorem chain_own (k dep : Nat) : own (chain (k + 1)) dep = if 64 ≤ dep then 5 else 0 := by
  have : own (chain (k + 1)) dep = if decide (64 ≤ dep) = true then 5 else 0 := rfl
  rw [this]
  simp
theorem chain_step (k dep : Nat) : (chain (k + 1)).sane dep = if 64 ≤ dep then 5 else (chain k).sane (dep + 1) := by
  have e := chain_own k dep
  rw [chain_succ] at e ⊢
  rw [sane_mk, e]
  by_cases h : 64 ≤ dep
  · rw [if_pos h, if_pos (by decide), if_pos h]
  · rw [if_neg h, if_neg (fun h => h rfl), if_pos rfl, if_neg h, saneL_cons, saneL_nil]
    by_cases h0 : (chain k).sane (dep + 1) = 0
    · rw [if_neg (fun h => h h0), h0]
    · rw [if_pos h0]
theorem chain_sane : ∀ (k dep : Nat), dep ≤ 64 → (chain k).sane dep = if dep + k ≤ 64 then 0 else 5
  | 0, dep, h => by rw [chain0_sane, if_pos (by omega)]
  | k + 1, dep, h => by
    rw [chain_step]
    by_cases h1 : 64 ≤ dep
    · rw [if_pos h1, if_neg (by omega)]
    · rw [if_neg h1, chain_sane k (dep + 1) (by omega)]
      by_cases h2 : dep + (k + 1) ≤ 64
      · rw [if_pos h2, if_pos (by omega)]
      · rw [if_neg h2, if_neg (by omega)]
theorem chain_len : ∀ k, (chain k).text.length = 2 * k + 4
  | 0 => rfl
  | k + 1 => by
    rw [chain_succ, text_mk]
    simp only [show ¬ ((5 : Int) = 0) by decide, show ¬ ((5 : Int) = 1) by decide, show ¬ ((5 : Int) = 2) by decide, show ¬ ((5 : Int) = 3) by decide, show ¬ ((5 : Int) = 4) by decide, if_false, if_true]
    rw [textL_cons, textL_nil]
    have := chain_len k
    simp
    omega
theorem chain_k (k : Nat) : (chain k).k ≠ 8 := by
  cases k
  · show (1 : Int) ≠ 8; decide
  · show (5 : Int) ≠ 8; decide

theorem nulls_ok (j : Nat) (h : j ≤ 2047) : Ob.Ok (nulls j) :=
  .mk _ _ _ _ _ _ (by decide) (by decide) (by decide) (by rw [List.length_replicate]; omega) (by decide) (fun x h => by rw [List.eq_of_mem_replicate h]; exact awN_ok) (fun x h => by cases h) (fun x h => by cases h)
theorem nul_sane (dep : Nat) : nul.sane dep = 0 := by
  unfold nul
  rw [sane_mk]
  rfl
theorem nulL_sane (dep : Nat) : ∀ j, saneL (List.replicate j nul) dep = 0
  | 0 => saneL_nil dep
  | j + 1 => by rw [List.replicate_succ, saneL_cons, nul_sane, if_neg (fun h => h rfl), nulL_sane dep j]
theorem nulls_own (j : Nat) : own (nulls j) 0 = if 1024 < j then 6 else 0 := by
  have : own (nulls j) 0 = if (decide (1024 < (List.replicate j nul).length) || false) = true then 6 else 0 := rfl
  rw [this, List.length_replicate]
  simp
theorem nulls_sane (j : Nat) : (nulls j).sane 0 = if 1024 < j then 6 else 0 := by
  have e := nulls_own j
  unfold nulls at e ⊢
  rw [sane_mk, e, nulL_sane]
  by_cases h : 1024 < j
  · rw [if_pos h, if_pos (by decide)]
  · rw [if_neg h, if_neg (fun h => h rfl), if_pos rfl]
theorem nulT : nul.text = [110, 117, 108, 108] := awN_T
theorem nulL_len : ∀ j, (textL true (List.replicate j nul)).length = 5 * j
  | 0 => by rw [List.replicate_zero, textL_nil]; rfl
  | j + 1 => by
    rw [List.replicate_succ, textL_cons, nulT]
    have := nulL_len j
    simp
    omega
theorem nulls_len (j : Nat) : (nulls j).text.length = if j = 0 then 2 else 5 * j + 1 := by
  unfold nulls
  rw [text_mk]
  simp only [show ¬ ((5 : Int) = 0) by decide, show ¬ ((5 : Int) = 1) by decide, show ¬ ((5 : Int) = 2) by decide, show ¬ ((5 : Int) = 3) by decide, show ¬ ((5 : Int) = 4) by decide, if_false, if_true]
  cases j with
  | zero => rw [List.replicate_zero, textL_nil]; rfl
  | succ j =>
    rw [if_neg (by omega), List.replicate_succ, textL_cons, nulT]
    have := nulL_len j
    simp
    omega

end Go.Proofs.YtdfgbdonnpbfcaaDoor
