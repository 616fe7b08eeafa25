/-
  A set of texts that a call has made: which keys of a row of entries it holds; rows of objects alone.
-/
import Derived.Test.YtkobcgemllcfoaaDoorCosLies
import Derived.Test.YtkobcgemllcfoaaDoorCosSameMath
import Derived.Test.YtkobcgemllcfoaaDoorHas
import Derived.Maps.OwnSet
import Derived.Maps.Own
import Derived.Maps.OwnOps
import Derived.Maps.Views
namespace Go.Proofs.YtkobcgemllcfoaaDoor
open Go.RowKit Go.Maps Cx
set_option linter.unusedSimpArgs false
set_option linter.unusedVariables false

theorem kstrW : Keyed Tryd.prog 9 := string_keyed Tryd.underlying9

theorem zero_unit (w : World) : (zeroValue 144).run Tryd.prog w = .ok (.agg #[]) w := by kernel_rfl

theorem Kept.toG {w w' : World} (k : Kept w w') (r : Option Nat) : w.grownBy w' r := ⟨k.os, k.tape, k.output, k.size, fun j hj _ => k.block j hj⟩
theorem Kept.gOwn {w wx w' : World} {b : Nat} (h : Kept w wx) (g : wx.grownBy w' (some b)) (hb : w.heap.size ≤ b) : Kept w w' :=
  ⟨g.os.trans h.os, g.tape.trans h.tape, g.output.trans h.output, Nat.le_trans h.size g.size, fun j hj => (g.block j (Nat.lt_of_lt_of_le hj h.size) (fun e => by injection e with e; omega)).trans (h.block j hj)⟩

theorem In.kW {w wx : World} {l : BlkList} (h : In w l wx) : Kept w wx := h.1

/-- Block b is a set of at most n texts: the keys of d. -/
def Met (w : World) (b n : Nat) (d : List Entr) : Prop :=
  ∃ D : DataW Unit, w.ownsMap Tryd.prog 9 unitElem b n D ∧ ∀ key : ByteArray, Maps.has D (.string key.data.toList) = hasK d key

theorem Met.made (w : World) : Met (w.alloc (.map #[] 0)) w.heap.size 0 [] :=
  ⟨_, World.ownsMap_made w Tryd.prog 9 _, fun _ => rfl⟩
theorem Met.kept {w w' : World} {b n : Nat} {d : List Entr} (h : Met w b n d) (k : Kept w w') : Met w' b n d := by
  obtain ⟨D, ho, hJ⟩ := h
  exact ⟨D, ho.kept (k.toG none) (by simp), hJ⟩
theorem Met.lt {w : World} {b n : Nat} {d : List Entr} (h : Met w b n d) : b < w.heap.size := by
  obtain ⟨D, ho, _⟩ := h; exact ho.lt
theorem litW_ne {a b : ByteArray} (h : a ≠ b) : (Lit.string a.data.toList) ≠ .string b.data.toList := fun e => h (toList_inj (by rw [Lib.toList_data, Lib.toList_data]; injection e))

section
variable {ops : Array Oper} {rest : List Oper} {o : Oper} {a : Act} {Q : Exit → Act → World → Prop} {w : World} {b n : Nat} {d : List Entr}

set_option maxRecDepth 100000 in
theorem wpList_met_ok (hg : o.guard = none) (m x : Operand) (hop : o.op = Op.lookup 143 m x true) (hI : Met w b n d) (hm : a.eval m = .map (some b)) (key : ByteArray) (hx : a.eval x = .string key) (hk : key.size ≤ maxLen)
    (hK : wpList Tryd.prog ops Q rest (a.put o.dst (.tuple #[.agg #[], .bool (hasK d key)])) w) :
    wpList Tryd.prog ops Q (o :: rest) a w := by
  obtain ⟨D, ho, hJ⟩ := hI
  refine wpList_lookup_own_unit w hg m x 143 hop 9 144 kstrW Tryd.underlying143 (zero_unit w) b n D hm ho (.string key) (.string key.data.toList) hx (WideMaps.keyOf_string_mk Tryd.underlying9 hk) ?_
  rw [hJ key]; exact hK

set_option maxRecDepth 100000 in
theorem wpList_met_put (hg : o.guard = none) (m x v : Operand) (hop : o.op = Op.mapUpdate 143 m x v) (hI : Met w b n d) (hn : n < maxLen) (hm : a.eval m = .map (some b)) (e : Entr) (hx : a.eval x = .string e.1) (hk : e.1.size ≤ maxLen) (hv : a.eval v = .agg #[])
    (hK : ∀ w', Met w' b (n + 1) (d ++ [e]) → w.grownBy w' (some b) → wpList Tryd.prog ops Q rest (a.put o.dst undef) w') :
    wpList Tryd.prog ops Q (o :: rest) a w := by
  obtain ⟨D, ho, hJ⟩ := hI
  refine wpList_mapUpdate_own w hg m x v 143 hop 9 144 kstrW Tryd.underlying143 _ b n D hm ho hn (.string e.1) (.agg #[]) (.string e.1.data.toList) hx hv (WideMaps.keyOf_string_mk Tryd.underlying9 hk) _ [] unitElem_mk ?_
  intro w' ho' hg'
  refine hK w' ⟨_, ho', fun k' => ?_⟩ hg'
  rw [hasK_append, hasK, hasK, Bool.or_false]
  by_cases ek : e.1 = k'
  · subst ek
    rw [has_put_same (ho.tidy kstrW).isMap (by trivial), keq_self, Bool.or_true]
  · rw [has_put_other (litW_ne (fun h => ek h.symm)), hJ k', keq_no ek, Bool.or_false]
end

/-- A row of entries, or of objects, alone. -/
theorem Lies.rowD {R : Cells} {o : Ob} {h : Hd} (hl : Lies R o h) : Lies R (.mk 6 0 0 ⟨#[]⟩ [] o.d) ⟨none, 0, h.q, h.e⟩ := by
  cases hl with
  | mk k n f s l d h H E hk hl hlc hd hds hdc =>
    exact .mk 6 0 0 ⟨#[]⟩ [] d ⟨none, 0, h.q, h.e⟩ H E ⟨Nat.zero_le _, hk.2.1, Nat.zero_le _⟩ (fun _ hi => absurd hi (Nat.not_lt_zero _)) (fun _ hi => absurd hi (Nat.not_lt_zero _)) hd hds hdc
theorem Lies.rowL {R : Cells} {o : Ob} {h : Hd} (hl : Lies R o h) : Lies R (.mk 5 0 0 ⟨#[]⟩ o.l []) ⟨h.p, h.c, none, 0⟩ := by
  cases hl with
  | mk k n f s l d h H E hk hl hlc hd hds hdc =>
    exact .mk 5 0 0 ⟨#[]⟩ l [] ⟨h.p, h.c, none, 0⟩ H E ⟨hk.1, Nat.zero_le _, Nat.zero_le _⟩ hl hlc (fun _ hi => absurd hi (Nat.not_lt_zero _)) (fun _ hi => absurd hi (Nat.not_lt_zero _)) (fun _ hi => absurd hi (Nat.not_lt_zero _))

end Go.Proofs.YtkobcgemllcfoaaDoor
