/-
  A map from texts to places whose size is known; a set of texts.
-/
import Derived.Test.YtkpagahnmbchjaaGreatDoorCosIdx
import Derived.Test.YtkpagahnmbchjaaGreatDoorLexM
import Derived.Maps.Views
namespace Go.Proofs.YtkpagahnmbchjaaGreatDoor
open Go.RowKit Go.Maps Cx

/-- As Idx; it has c entries. -/
def IdxS (w : World) (b n c : Nat) (J : ByteArray → Option Nat) : Prop :=
  ∃ D : DataW Unit, w.ownsMap Tryz.prog 9 (plainElem Tryz.prog 3) b n D ∧ Maps.size D = c ∧
    ∀ key : ByteArray, (∀ i, J key = some i → Maps.has D (.string key.data.toList) = true ∧ D.atKey (.string key.data.toList) (.lit (.int .i64 0)) = .lit (.int .i64 (i : Int)) ∧ i ≤ 4294967296) ∧ (J key = none → Maps.has D (.string key.data.toList) = false)

theorem IdxS.idx {w : World} {b n c : Nat} {J : ByteArray → Option Nat} (h : IdxS w b n c J) : Idx w b n J := by
  obtain ⟨D, ho, _, hJ⟩ := h; exact ⟨D, ho, hJ⟩
theorem IdxS.made (w : World) : IdxS (w.alloc (.map #[] 0)) w.heap.size 0 0 (fun _ => none) :=
  ⟨_, World.ownsMap_made w Tryz.prog 9 _, rfl, fun _ => ⟨fun _ h => (by simp at h), fun _ => rfl⟩⟩
theorem IdxS.kept {w w' : World} {b n c : Nat} {J : ByteArray → Option Nat} (h : IdxS w b n c J) {r : Option Nat} (g : w.grownBy w' r) (hne : some b ≠ r) : IdxS w' b n c J := by
  obtain ⟨D, ho, hc, hJ⟩ := h
  exact ⟨D, ho.kept g hne, hc, hJ⟩
theorem IdxS.keptK {w w' : World} {b n c : Nat} {J : ByteArray → Option Nat} (h : IdxS w b n c J) (k : Kept w w') : IdxS w' b n c J := h.kept (gb_kept k none) (by simp)
theorem IdxS.lt {w : World} {b n c : Nat} {J : ByteArray → Option Nat} (h : IdxS w b n c J) : b < w.heap.size := h.idx.lt
theorem IdxS.mono {w : World} {b n n' c : Nat} {J : ByteArray → Option Nat} (h : IdxS w b n c J) (hn : n ≤ n') : IdxS w b n' c J := by
  obtain ⟨D, ho, hc, hJ⟩ := h; exact ⟨D, ho.mono hn, hc, hJ⟩

section
variable {ops : Array Oper} {rest : List Oper} {o : Oper} {a : Act} {Q : Exit → Act → World → Prop} {w : World} {b n c : Nat} {J : ByteArray → Option Nat}

set_option maxRecDepth 100000 in
theorem wpList_idxs_put (hg : o.guard = none) (m x v : Operand) (hop : o.op = Op.mapUpdate 189 m x v) (hI : IdxS w b n c J) (hn : n < maxLen) (hm : a.eval m = .map (some b)) (key : ByteArray) (hx : a.eval x = .string key) (hk : key.size ≤ maxLen) (hj0 : J key = none) (i : Nat) (hv : a.eval v = .int .i64 (i : Int)) (hi : i ≤ 4294967296)
    (hK : ∀ w', IdxS w' b (n + 1) (c + 1) (fun k => if k = key then some i else J k) → w.grownBy w' (some b) → wpList Tryz.prog ops Q rest (a.put o.dst undef) w') :
    wpList Tryz.prog ops Q (o :: rest) a w := by
  obtain ⟨D, ho, hc, hJ⟩ := hI
  refine wpList_mapUpdate_own w hg m x v 189 hop 9 3 kstr Tryz.underlying189 _ b n D hm ho hn (.string key) (.int .i64 (i : Int)) (.string key.data.toList) hx hv (WideMaps.keyOf_string_mk Tryz.underlying9 hk) _ [] (plainElem_int Tryz.underlying3 (WalkArith.wf_i64 (by omega))) ?_
  intro w' ho' hg'
  refine hK w' ⟨_, ho', ?_, fun k' => ⟨fun j hj => ?_, fun hj => ?_⟩⟩ hg'
  · rw [size_put (ho.tidy kstr), (hJ key).2 hj0, hc]; rfl
  · by_cases e : k' = key
    · subst e
      simp only [if_true, Option.some.injEq] at hj
      subst hj
      exact ⟨has_put_same (ho.tidy kstr).isMap (by trivial) _, atKey_put_same (ho.tidy kstr).isMap (by trivial) _ _, hi⟩
    · simp only [if_neg e] at hj
      obtain ⟨h1, h2, h3⟩ := (hJ k').1 j hj
      exact ⟨by rw [has_put_other (lit_ne e)]; exact h1, by rw [atKey_put_other (lit_ne e)]; exact h2, h3⟩
  · by_cases e : k' = key
    · subst e; simp at hj
    · simp only [if_neg e] at hj
      rw [has_put_other (lit_ne e)]; exact (hJ k').2 hj

theorem wpList_idxs_len (hg : o.guard = none) (m : Operand) (hop : o.op = Op.call { callee := Callee.builtin Builtin.len, args := #[m], argTypes := #[189] }) (hI : IdxS w b n c J) (hm : a.eval m = .map (some b))
    (hK : wpList Tryz.prog ops Q rest (a.put o.dst (.int .i64 (c : Nat))) w) :
    wpList Tryz.prog ops Q (o :: rest) a w := by
  obtain ⟨D, ho, hc, hJ⟩ := hI
  refine wpList_len_own w hg m 189 hop 9 3 Tryz.underlying189 _ b n D hm ho ?_
  rw [hc]; exact hK
end

end Go.Proofs.YtkpagahnmbchjaaGreatDoor
