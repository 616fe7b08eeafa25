import Derived.Test.YtoablpaehhjchaaGreatDoorXrfM
import Derived.Test.YtoablpaehhjchaaGreatDoorXBase
import Derived.Laws.AppendOwn
import Derived.Lib.Hide
import Derived.Deep.LoopGhost
import Derived.Deep.QuietTactic
import Derived.Deep.RegionLaw
import Derived.Deep.RegionHeld3
import Derived.Deep.DeepCutAuto
import Derived.Shelf.Abstract
import Derived.Deep.AppendLies
namespace Go.Proofs.YtoablpaehhjchaaGreatDoor
open Go.RowKit Rx
set_option linter.unusedSimpArgs false
set_option linter.unusedVariables false

theorem gbX {w w' : World} (k : Kept w w') (r : Option Nat) : w.grownBy w' r := ⟨k.os, k.tape, k.output, k.size, fun j hj _ => k.block j hj⟩
def entc (e : Xent) : List Value := [.int .i64 e.n, .int .i64 e.off, .int .i64 e.gen, .bool e.used]
def xentV (e : Xent) : Value := .agg #[.int .i64 e.n, .int .i64 e.off, .int .i64 e.gen, .bool e.used]
def entC (l : List Xent) : List Value := l.flatMap entc
theorem entc_len (e : Xent) : (entc e).length = 4 := rfl
theorem entC_len : ∀ l, (entC l).length = 4 * l.length
  | [] => rfl
  | t :: r => by
    have := entC_len r
    unfold entC at this ⊢
    rw [List.flatMap_cons, List.length_append, this]; simp [entc]; omega
theorem entC_app (a b : List Xent) : entC (a ++ b) = entC a ++ entC b := by unfold entC; simp
theorem entC_one (e : Xent) : entC [e] = entc e := by unfold entC; simp
theorem entC_get : ∀ (l : List Xent) (i : Nat) (h : i < l.length) (q : Nat), q < 4 → (entC l)[i * 4 + q]? = (entc l[i])[q]?
  | [], i, h, q, _ => by simp at h
  | t :: r, 0, h, q, hq => by
    unfold entC
    rw [List.flatMap_cons, List.getElem?_append_left (by simp [entc]; omega)]; simp
  | t :: r, i + 1, h, q, hq => by
    have := entC_get r i (by simpa using h) q hq
    unfold entC at this ⊢
    rw [List.flatMap_cons, List.getElem?_append_right (by simp [entc]; omega)]
    have e : (i + 1) * 4 + q - (entc t).length = i * 4 + q := by simp [entc]; omega
    rw [e, this]; rfl
theorem entC_one_cell {l : List Xent} : ∀ v ∈ entC l, v.oneCell' = true := fun v hv => by
  unfold entC at hv
  obtain ⟨e, -, h⟩ := List.mem_flatMap.1 hv
  simp only [entc, List.mem_cons, List.not_mem_nil, or_false] at h
  rcases h with rfl | rfl | rfl | rfl <;> rfl

def Ents (T : TypeId) (w : World) (B : Nat) (v : Value) (l : List Xent) : Prop := w.ownsRow B T 4 v l.length (entC l)
section
variable {T : TypeId} {w w' : World} {B B' : Nat} {v : Value} {l : List Xent}
theorem Ents.nil (T : TypeId) (B : Nat) (w : World) : Ents T w B (.slice none 0 0) [] := World.ownsRow_nil _ _ _ _
theorem Ents.lt (h : Ents T w B v l) : ∀ k, v.ownBlock = some k → B ≤ k ∧ k < w.heap.size := World.ownsRow.lt h
theorem Ents.gb (h : Ents T w B v l) {r : Option Nat} (g : w.grownBy w' r) (hne : v.ownBlock = none ∨ v.ownBlock ≠ r) : Ents T w' B v l := World.ownsRow.kept h g hne
theorem Ents.kept (h : Ents T w B v l) (k : Kept w w') : Ents T w' B v l :=
  h.gb (gbX k none) (by cases hv : v.ownBlock with
    | none => exact .inl rfl
    | some g => exact .inr (by simp))
theorem Ents.shape (h : Ents T w B v l) : ∃ p cap, v = .slice p l.length cap ∧ l.length ≤ cap ∧ (p = none → l = []) := by
  rcases h.2 with ⟨rfl, h0⟩ | ⟨g, cap, cur, rfl, _, _, hn, _⟩
  · exact ⟨none, 0, by rw [h0], by omega, fun _ => List.length_eq_zero_iff.1 h0⟩
  · exact ⟨_, _, rfl, hn, fun e => by cases e⟩
theorem Ents.base (h : Ents T w B v l) (hB : B' ≤ B) : Ents T w B' v l :=
  ⟨h.1, by
    rcases h.2 with h1 | ⟨g, cap, cur, h1, h2, h3⟩
    · exact .inl h1
    · exact .inr ⟨g, cap, cur, h1, by omega, h3⟩⟩
end

def EntR (w : World) (B0 : Nat) (p : Option Addr) (l : List Xent) : Prop := ∀ i (h : i < l.length), ∃ k o, p = some ⟨k, o, none⟩ ∧ k < B0 ∧
  w.cell? ⟨k, o + i * 4, none⟩ = some (.int .i64 l[i].n) ∧ w.cell? ⟨k, o + i * 4 + 1, none⟩ = some (.int .i64 l[i].off) ∧ w.cell? ⟨k, o + i * 4 + 2, none⟩ = some (.int .i64 l[i].gen) ∧ w.cell? ⟨k, o + i * 4 + 3, none⟩ = some (.bool l[i].used)
theorem EntR.keep {w w' : World} {B0 : Nat} {p : Option Addr} {l : List Xent} (h : EntR w B0 p l) (hB : B0 ≤ w.heap.size) (k : Kept w w') : EntR w' B0 p l := fun i hi => by
  obtain ⟨kb, o, hp, hk, h0, h1, h2, h3⟩ := h i hi
  exact ⟨kb, o, hp, hk, by rw [← h0]; exact k.cells.1 _ _ (by omega), by rw [← h1]; exact k.cells.1 _ _ (by omega), by rw [← h2]; exact k.cells.1 _ _ (by omega), by rw [← h3]; exact k.cells.1 _ _ (by omega)⟩
theorem EntR.mono {w : World} {B0 B1 : Nat} {p : Option Addr} {l : List Xent} (h : EntR w B0 p l) (hB : B0 ≤ B1) : EntR w B1 p l := fun i hi => by
  obtain ⟨kb, o, hp, hk, h0⟩ := h i hi
  exact ⟨kb, o, hp, by omega, h0⟩

theorem EntR.see {w w' : World} {p : Option Addr} {l : List Xent} (h : EntR w w.heap.size p l) (k : Kept w w') : EntR w' w'.heap.size p l := (h.keep (Nat.le_refl _) k).mono (Below.size k)
theorem EntR.none (w : World) (B0 : Nat) (p : Option Addr) : EntR w B0 p [] := fun i h => absurd h (Nat.not_lt_zero _)

theorem EntR.take {w : World} {B0 : Nat} {p : Option Addr} {l : List Xent} (h : EntR w B0 p l) (n : Nat) : EntR w B0 p (l.take n) := fun i hi => by
  have hi' : i < l.length := by rw [List.length_take] at hi; omega
  have := h i hi'
  rw [show (l.take n)[i] = l[i] from List.getElem_take]; exact this
theorem EntR.drop {w : World} {B0 k o : Nat} {l : List Xent} (h : EntR w B0 (some ⟨k, o, .none⟩) l) (n : Nat) : EntR w B0 (some ⟨k, o + n * 4, .none⟩) (l.drop n) := fun i hi => by
  have hi' : n + i < l.length := by rw [List.length_drop] at hi; omega
  obtain ⟨k', o', hp, hk, h0, h1, h2, h3⟩ := h (n + i) hi'
  injection hp with hp
  injection hp with e1 e2 e3
  subst e1 e2
  have e : o + (n + i) * 4 = o + n * 4 + i * 4 := by omega
  rw [e] at h0 h1 h2 h3
  rw [show (l.drop n)[i] = l[n + i] from List.getElem_drop]
  exact ⟨k, o + n * 4, rfl, hk, h0, h1, h2, h3⟩
theorem Ents.entR {T : TypeId} {w : World} {B : Nat} {p : Option Addr} {n c : Nat} {l : List Xent} (h : Ents T w B (.slice p n c) l) : EntR w w.heap.size p l := fun i hi => by
  have h0 := h
  rcases h.2 with ⟨_, h1⟩ | ⟨g, cap, cur, he, hb, hh, hn, hc, hs, ht⟩
  · omega
  · injection he with e1 e2 e3
    subst e1 e2 e3
    have hlt := (World.ownsRow.lt h0 g rfl).2
    have hl := entC_len l
    have key : ∀ q, q < 4 → w.cell? ⟨g, i * 4 + q, none⟩ = (entc l[i])[q]? := fun q hq => by
      rw [World.ownsRow.cellAt h0 (i * 4 + q) (by omega), entC_get l i hi q hq]
    refine ⟨g, 0, rfl, hlt, ?_, ?_, ?_, ?_⟩
    · rw [Nat.zero_add]; exact key 0 (by decide)
    · rw [Nat.zero_add]; exact key 1 (by decide)
    · rw [Nat.zero_add]; exact key 2 (by decide)
    · rw [Nat.zero_add]; exact key 3 (by decide)

theorem info_xent : (Tryz.prog.info? 65).map (fun i => (i.zero, i.size, i.bytes)) = some (some (.agg #[.int .i64 0, .int .i64 0, .int .i64 0, .bool false]), 4, 32) := by kernel_rfl
set_option maxRecDepth 100000 in

theorem wpList_app_ents {ops : Array Oper} {rest : List Oper} {o : Oper} {a : Act} {Q : Exit → Act → World → Prop} (hgd : o.guard = none) (s x : Operand)
    (ho : o.op = .call { callee := .builtin .append, args := #[s, x], argTypes := #[22, 22] })
    {W : World} {B : Nat} {v : Value} {l : List Xent} (hown : Ents 65 W B v l) (hs : a.eval s = v) (p : Option Addr) (es : List Xent) (n c : Nat) (hn : n = es.length) (hne : 1 ≤ es.length) (hes : EntR W W.heap.size p es)
    (hx : a.eval x = .slice p n c) (hB : B ≤ W.heap.size) (hlen : l.length + es.length ≤ 1099511627776)
    (h : ∀ g cap w', Ents 65 w' B (.slice (some ⟨g, 0, none⟩) (l.length + es.length) cap) (l ++ es) → W.grownBy w' v.ownBlock → (v.ownBlock = some g ∨ g = W.heap.size) →
      wpList Tryz.prog ops Q rest (a.put o.dst (.slice (some ⟨g, 0, none⟩) (l.length + es.length) cap)) w') :
    wpList Tryz.prog ops Q (o :: rest) a W := by
  obtain ⟨i0, hi, hz0, hz1, hz2⟩ := info_parts info_xent
  subst hn
  obtain ⟨k, of, hp, -⟩ := hes 0 hne
  subst hp
  refine wpList_append_lies _ hgd s x 22 ho B 65 i0 _ 4 32 Tryz.underlying22 hi hz0 hz1 hz2 rfl (by decide) v l.length (entC l) hs hown ⟨k, of, none⟩ es.length c (entC es) hx (by rw [entC_len]; omega)
    ?_ entC_one_cell (by omega) (by unfold maxLen; omega) (by omega) hB W.heap.size rfl ?_
  · intro j u hj
    have hj4 := (List.getElem?_eq_some_iff.1 hj).1
    rw [entC_len] at hj4
    rw [Addr.add_lit]
    obtain ⟨i, q, hq, rfl⟩ : ∃ i q, q < 4 ∧ j = i * 4 + q := ⟨j / 4, j % 4, Nat.mod_lt _ (by decide), by omega⟩
    have hi4 : i < es.length := by omega
    rw [entC_get es i hi4 q hq] at hj
    obtain ⟨k', of', hp, -, h0, h1, h2, h3⟩ := hes i hi4
    injection hp with hp
    injection hp with e1 e2 e3
    subst e1 e2
    match q, hq with
    | 0, _ => rw [show of + (i * 4 + 0) = of + i * 4 by omega, h0]; exact hj
    | 1, _ => rw [show of + (i * 4 + 1) = of + i * 4 + 1 by omega, h1]; exact hj
    | 2, _ => rw [show of + (i * 4 + 2) = of + i * 4 + 2 by omega, h2]; exact hj
    | 3, _ => rw [show of + (i * 4 + 3) = of + i * 4 + 3 by omega, h3]; exact hj
  · intro g cap w' h1 h2 h3 _
    refine h g cap w' ?_ h2 h3
    unfold Ents
    rw [List.length_append, entC_app]
    exact h1

end Go.Proofs.YtoablpaehhjchaaGreatDoor
