/-
  A map from texts to places that a call has made: read as a function.
-/
import Derived.Test.YtbgdeaeikijdgaaGreatDoorCosRows
import Derived.Maps.OwnSet
import Derived.Maps.Own
import Derived.Maps.OwnOps
namespace Go.Proofs.YtbgdeaeikijdgaaGreatDoor
open Go.RowKit Go.Maps Cx

theorem kstr : Keyed Tryz.prog 9 := string_keyed Tryz.underlying9
theorem zero_int (w : World) : (zeroValue 3).run Tryz.prog w = .ok (.int .i64 0) w := by kernel_rfl

/-- Block b is a map of at most n entries; J tells what it holds. -/
def Idx (w : World) (b n : Nat) (J : ByteArray → Option Nat) : Prop :=
  ∃ D : DataW Unit, w.ownsMap Tryz.prog 9 (plainElem Tryz.prog 3) b n D ∧
    ∀ key : ByteArray, (∀ i, J key = some i → Maps.has D (.string key.data.toList) = true ∧ D.atKey (.string key.data.toList) (.lit (.int .i64 0)) = .lit (.int .i64 (i : Int)) ∧ i ≤ 4294967296) ∧ (J key = none → Maps.has D (.string key.data.toList) = false)

theorem Idx.made (w : World) : Idx (w.alloc (.map #[] 0)) w.heap.size 0 (fun _ => none) :=
  ⟨_, World.ownsMap_made w Tryz.prog 9 _, fun _ => ⟨fun _ h => (by simp at h), fun _ => rfl⟩⟩
theorem Idx.kept {w w' : World} {b n : Nat} {J : ByteArray → Option Nat} (h : Idx w b n J) {r : Option Nat} (g : w.grownBy w' r) (hne : some b ≠ r) : Idx w' b n J := by
  obtain ⟨D, ho, hJ⟩ := h
  exact ⟨D, ho.kept g hne, hJ⟩
theorem Idx.keptK {w w' : World} {b n : Nat} {J : ByteArray → Option Nat} (h : Idx w b n J) (k : Kept w w') : Idx w' b n J := h.kept (gb_kept k none) (by simp)
theorem Idx.lt {w : World} {b n : Nat} {J : ByteArray → Option Nat} (h : Idx w b n J) : b < w.heap.size := by
  obtain ⟨D, ho, _⟩ := h; exact ho.lt
theorem Idx.mono {w : World} {b n n' : Nat} {J : ByteArray → Option Nat} (h : Idx w b n J) (hn : n ≤ n') : Idx w b n' J := by
  obtain ⟨D, ho, hJ⟩ := h; exact ⟨D, ho.mono hn, hJ⟩

theorem lit_ne {a b : ByteArray} (h : a ≠ b) : (Lit.string a.data.toList) ≠ .string b.data.toList := fun e => h (toList_inj (by rw [Lib.toList_data, Lib.toList_data]; injection e))

section
variable {ops : Array Oper} {rest : List Oper} {o : Oper} {a : Act} {Q : Exit → Act → World → Prop} {w : World} {b n : Nat} {J : ByteArray → Option Nat}

set_option maxRecDepth 100000 in
theorem wpList_idx_ok (hg : o.guard = none) (m x : Operand) (hop : o.op = Op.lookup 278 m x true) (hI : Idx w b n J) (hm : a.eval m = .map (some b)) (key : ByteArray) (hx : a.eval x = .string key) (hk : key.size ≤ maxLen)
    (hK : wpList Tryz.prog ops Q rest (a.put o.dst (.tuple #[.int .i64 ((J key).getD 0 : Nat), .bool (J key).isSome])) w) :
    wpList Tryz.prog ops Q (o :: rest) a w := by
  obtain ⟨D, ho, hJ⟩ := hI
  refine wpList_lookup_own_ok_int w hg m x 278 hop 9 3 .i64 kstr Tryz.underlying278 Tryz.underlying3 (zero_int w) b n D hm ho (.string key) (.string key.data.toList) hx (WideMaps.keyOf_string_mk Tryz.underlying9 hk) ?_
  intro c hc _
  obtain ⟨h1, h2⟩ := hJ key
  cases hj : J key with
  | none =>
    rw [hj] at hK
    have hh := h2 hj
    rw [atKey_of_not_has hh] at hc
    obtain rfl : c = 0 := by injection hc with e; injection e with _ e; exact e.symm
    rw [hh]; exact hK
  | some i =>
    rw [hj] at hK
    obtain ⟨hh, hv, _⟩ := h1 i hj
    rw [hv] at hc
    obtain rfl : c = (i : Int) := by injection hc with e; injection e with _ e; exact e.symm
    rw [hh]; exact hK

set_option maxRecDepth 100000 in
theorem wpList_idx_get (hg : o.guard = none) (m x : Operand) (hop : o.op = Op.lookup 278 m x false) (hI : Idx w b n J) (hm : a.eval m = .map (some b)) (key : ByteArray) (hx : a.eval x = .string key) (hk : key.size ≤ maxLen)
    (hK : wpList Tryz.prog ops Q rest (a.put o.dst (.int .i64 ((J key).getD 0 : Nat))) w) :
    wpList Tryz.prog ops Q (o :: rest) a w := by
  obtain ⟨D, ho, hJ⟩ := hI
  refine wpList_lookup_own_int w hg m x 278 hop 9 3 .i64 kstr Tryz.underlying278 Tryz.underlying3 (zero_int w) b n D hm ho (.string key) (.string key.data.toList) hx (WideMaps.keyOf_string_mk Tryz.underlying9 hk) ?_
  intro c hc _
  obtain ⟨h1, h2⟩ := hJ key
  cases hj : J key with
  | none =>
    rw [hj] at hK
    rw [atKey_of_not_has (h2 hj)] at hc
    obtain rfl : c = 0 := by injection hc with e; injection e with _ e; exact e.symm
    exact hK
  | some i =>
    rw [hj] at hK
    obtain ⟨hh, hv, _⟩ := h1 i hj
    rw [hv] at hc
    obtain rfl : c = (i : Int) := by injection hc with e; injection e with _ e; exact e.symm
    exact hK

set_option maxRecDepth 100000 in
theorem wpList_idx_put (hg : o.guard = none) (m x v : Operand) (hop : o.op = Op.mapUpdate 278 m x v) (hI : Idx w b n J) (hn : n < maxLen) (hm : a.eval m = .map (some b)) (key : ByteArray) (hx : a.eval x = .string key) (hk : key.size ≤ maxLen) (i : Nat) (hv : a.eval v = .int .i64 (i : Int)) (hi : i ≤ 4294967296)
    (hK : ∀ w', Idx w' b (n + 1) (fun k => if k = key then some i else J k) → w.grownBy w' (some b) → wpList Tryz.prog ops Q rest (a.put o.dst undef) w') :
    wpList Tryz.prog ops Q (o :: rest) a w := by
  obtain ⟨D, ho, hJ⟩ := hI
  refine wpList_mapUpdate_own w hg m x v 278 hop 9 3 kstr Tryz.underlying278 _ b n D hm ho hn (.string key) (.int .i64 (i : Int)) (.string key.data.toList) hx hv (WideMaps.keyOf_string_mk Tryz.underlying9 hk) _ [] (plainElem_int Tryz.underlying3 (WalkArith.wf_i64 (by omega))) ?_
  intro w' ho' hg'
  refine hK w' ⟨_, ho', fun k' => ⟨fun j hj => ?_, fun hj => ?_⟩⟩ hg'
  · by_cases e : k' = key
    · subst e
      simp only [if_true, Option.some.injEq] at hj
      subst hj
      exact ⟨has_put_same (ho.tidy kstr).isMap (by trivial) _, atKey_put_same (ho.tidy kstr).isMap (by trivial) _ _, hi⟩
    · simp only [if_neg e] at hj
      obtain ⟨h1, h2, h3⟩ := (hJ k').1 j hj
      exact ⟨by rw [has_put_other (lit_ne e)]; exact h1, by rw [atKey_put_other (lit_ne e)]; exact h2, h3⟩
  · by_cases e : k' = key
    · subst e; simp at hj
    · simp only [if_neg e] at hj
      rw [has_put_other (lit_ne e)]; exact (hJ k').2 hj

set_option maxRecDepth 100000 in
theorem wpList_idx_del (hg : o.guard = none) (m x : Operand) (hop : o.op = Op.call { callee := Callee.builtin Builtin.delete, args := #[m, x], argTypes := #[278, 9] }) (hI : Idx w b n J) (hm : a.eval m = .map (some b)) (key : ByteArray) (hx : a.eval x = .string key) (hk : key.size ≤ maxLen)
    (hK : ∀ w', Idx w' b n (fun k => if k = key then none else J k) → w.grownBy w' (some b) → wpList Tryz.prog ops Q rest (a.put o.dst (.tuple #[])) w') :
    wpList Tryz.prog ops Q (o :: rest) a w := by
  obtain ⟨D, ho, hJ⟩ := hI
  refine wpList_delete_own w hg m x 278 9 hop 3 kstr Tryz.underlying278 _ b n D hm ho (.string key) (.string key.data.toList) hx (WideMaps.keyOf_string_mk Tryz.underlying9 hk) ?_
  intro w' ho' ht
  refine hK w' ⟨_, ho', fun k' => ⟨fun j hj => ?_, fun hj => ?_⟩⟩ ht.grown
  · by_cases e : k' = key
    · subst e; simp at hj
    · simp only [if_neg e] at hj
      obtain ⟨h1, h2, h3⟩ := (hJ k').1 j hj
      exact ⟨by rw [has_del_other (lit_ne e)]; exact h1, by rw [atKey_del_other (lit_ne e)]; exact h2, h3⟩
  · by_cases e : k' = key
    · subst e; exact has_del_same
    · simp only [if_neg e] at hj
      rw [has_del_other (lit_ne e)]; exact (hJ k').2 hj
end

end Go.Proofs.YtbgdeaeikijdgaaGreatDoor
