/-
  Object of arrays in one another, where they are made one by one.
-/
import Derived.Test.YtdfgbdonnpbfcaaDoorWriteLimMath
namespace Go.Proofs.YtdfgbdonnpbfcaaDoor
open Go.RowKit Cx

theorem chain_rest (i : Nat) : (chain i).f = 0 ∧ (chain i).s = ⟨#[]⟩ ∧ (chain i).d = [] := by
  cases i
  · exact ⟨rfl, rfl, rfl⟩
  · exact ⟨rfl, rfl, rfl⟩

theorem Lies.setW {P : Nat → Prop} {w : World} {o : Ob} {h : Hd} {k of : Nat} (hl : Lies (Cel P w) o h) (hk : ∀ b, P b → b ≠ k) (v : Value) : Lies (Cel P (w.setCell ⟨k, of, none⟩ v)) o h :=
  hl.keep fun b hb _ => ⟨hb, Below.heap_setCell w ⟨k, of, none⟩ v b (hk b hb)⟩

/-- One more array about the chain that lies there. -/
theorem chain_lies {P : Nat → Prop} (i b : Nat) (kk nn : Int) (ll c : Nat) (p : Option Addr) (w : World)
    (hb : Blk w b #[.int .i64 kk, .int .i64 nn, .int .i64 0, .string ⟨#[]⟩, .slice p ll c, .slice none 0 0] 26) (hP : P b) (hk : kk = (chain i).k) (hn : nn = (chain i).n) (hll : ll = (chain i).l.length)
    (hl : Lies (Cel P w) (chain i) ⟨p, c, none, 0⟩) : Lies (Cel P w) (chain (i + 1)) ⟨some ⟨b, 0, none⟩, 1, none, 0⟩ := by
  obtain ⟨r1, r2, r3⟩ := chain_rest i
  refine .mk _ _ _ _ _ _ _ (fun _ => ⟨p, c, none, 0⟩) (fun _ => ⟨none, 0, none, 0⟩) ⟨by show 1 ≤ maxLen; decide, by decide, by decide⟩ (fun j hj => ?_) (fun j hj => ?_) (fun _ hi => absurd hi (Nat.not_lt_zero _)) (fun _ hi => absurd hi (Nat.not_lt_zero _)) (fun _ hi => absurd hi (Nat.not_lt_zero _))
  · obtain rfl : j = 0 := by simp at hj; omega
    exact hl
  · obtain rfl : j = 0 := by simp at hj; omega
    refine ⟨b, 0, rfl, fun q v hv => ⟨hP, ?_⟩⟩
    rw [hb.cell]
    have hv : (cells6 (chain i) ⟨p, c, none, 0⟩)[q]? = some v := hv
    have hq : q < 6 := by
      rcases Nat.lt_or_ge q 6 with h | h
      · exact h
      · rw [List.getElem?_eq_none h] at hv; cases hv
    subst hk hn hll
    have e : cells6 (chain i) ⟨p, c, none, 0⟩ = [.int .i64 (chain i).k, .int .i64 (chain i).n, .int .i64 0, .string ⟨#[]⟩, .slice p (chain i).l.length c, .slice none 0 0] := by
      unfold cells6
      rw [r1, r2, r3]
      rfl
    rw [e] at hv
    have hq : q = 0 ∨ q = 1 ∨ q = 2 ∨ q = 3 ∨ q = 4 ∨ q = 5 := by omega
    rcases hq with rfl | rfl | rfl | rfl | rfl | rfl <;> exact hv

theorem chainObject {P : Nat → Prop} (K : Nat) (kk nn : Int) (ll c : Nat) (p : Option Addr) (w : World) (hK : K ≤ 127) (hk : kk = (chain K).k) (hn : nn = (chain K).n) (hll : ll = (chain K).l.length)
    (hl : Lies (Cel P w) (chain K) ⟨p, c, none, 0⟩) (hf : Fine w) :
    Calls Tryd.prog 9 #[.agg #[.int .i64 kk, .int .i64 nn, .int .i64 0, .string ⟨#[]⟩, .slice p ll c, .slice none 0 0]] w fun e w' =>
      ∃ (S : ByteArray) (E : Int), e = .returned (.tuple #[.string S, .int .i64 E]) ∧ Kept w w' ∧ (E = if K ≤ 64 then 0 else 5) ∧ (K ≤ 64 → S.size = 2 * K + 4) := by
  obtain ⟨r1, r2, r3⟩ := chain_rest K
  have hs := chain_sane K 0 (by omega)
  rw [Nat.zero_add] at hs
  have h := ObjectW_any P (chain K) ⟨p, c, none, 0⟩ w hl hf (fun _ => chain_ok K) (fun _ => by rw [chain_len]; omega)
  have e : objV (chain K) ⟨p, c, none, 0⟩ = .agg #[.int .i64 kk, .int .i64 nn, .int .i64 0, .string ⟨#[]⟩, .slice p ll c, .slice none 0 0] := by
    unfold objV
    rw [r1, r2, r3, ← hk, ← hn, ← hll]
    rfl
  rw [e] at h
  refine h.mono fun e w' ⟨he, hk⟩ => ⟨_, _, he, hk, ?_, fun h64 => ?_⟩
  · unfold objE
    rw [hs]
    by_cases h : K ≤ 64
    · rw [if_pos h, if_neg (fun h => h rfl), if_neg (chain_k K)]
    · rw [if_neg h, if_pos (by decide)]
  · have : objT (chain K) = (chain K).text := by
      unfold objT
      rw [hs, if_pos h64, if_neg (fun h => h rfl), if_neg (chain_k K)]
    rw [this]
    show (chain K).text.toArray.size = _
    rw [List.size_toArray, chain_len]

theorem nullsObject {P : Nat → Prop} (j : Nat) (p : Option Addr) (c : Nat) (w : World) (hj : j ≤ 2047) (hl : Lies (Cel P w) (nulls j) ⟨p, c, none, 0⟩) (hf : Fine w) :
    Calls Tryd.prog 9 #[.agg #[.int .i64 5, .int .i64 0, .int .i64 0, .string ⟨#[]⟩, .slice p j c, .slice none 0 0]] w fun e w' =>
      ∃ (S : ByteArray) (E : Int), e = .returned (.tuple #[.string S, .int .i64 E]) ∧ Kept w w' ∧ (E = if 1024 < j then 6 else 0) ∧ (j ≤ 1024 → j ≠ 0 → S.size = 5 * j + 1) := by
  have hs := nulls_sane j
  have h := ObjectW_any P (nulls j) ⟨p, c, none, 0⟩ w hl hf (fun _ => nulls_ok j hj) (fun _ => by rw [nulls_len]; split <;> omega)
  have e : objV (nulls j) ⟨p, c, none, 0⟩ = .agg #[.int .i64 5, .int .i64 0, .int .i64 0, .string ⟨#[]⟩, .slice p j c, .slice none 0 0] := by
    show Value.agg #[.int .i64 5, .int .i64 0, .int .i64 0, .string ⟨#[]⟩, .slice p (List.replicate j nul).length c, .slice none 0 0] = _
    rw [List.length_replicate]
  rw [e] at h
  refine h.mono fun e w' ⟨he, hk⟩ => ⟨_, _, he, hk, ?_, fun h1 h0 => ?_⟩
  · unfold objE
    rw [hs]
    by_cases h : 1024 < j
    · rw [if_pos h, if_pos (by decide)]
    · rw [if_neg h]; rfl
  · have : objT (nulls j) = (nulls j).text := by
      unfold objT
      rw [hs, if_neg (show ¬ 1024 < j by omega)]; rfl
    rw [this]
    show (nulls j).text.toArray.size = _
    rw [List.size_toArray, nulls_len, if_neg h0]

end Go.Proofs.YtdfgbdonnpbfcaaDoor
