/-
  A map from numbers to entries that a call has made: read as a function; what a range over its values gives.
-/
import Derived.Test.YtoablpaehhjchaaGreatDoorXrfRow
import Derived.Maps.OwnSet
import Derived.Maps.Own
import Derived.Maps.OwnOps
import Derived.Lib.SlKeysI
import Derived.Sort.MapsRangeIn
import Derived.RangeFuncNested
import Derived.RangeFuncBound
import Derived.RangeFuncCalls
import Derived.RangeFuncLeaves
import Derived.Shelf.Abstract
import Derived.Shelf.AbstractIn
import Derived.Shelf.RegionOpen
import Derived.OwnWalkIn
import Derived.TacticsInMore
import Derived.RegionIn
import Derived.LoopNIn
import Derived.LoopIn
namespace Go.Proofs.YtoablpaehhjchaaGreatDoor
open Go.RowKit Go.Maps Go.Shelf Rx
set_option linter.unusedSimpArgs false
set_option linter.unusedVariables false

theorem kint : Keyed Tryz.prog 3 := int_keyed Tryz.underlying3
theorem zero_xent (w : World) : (zeroValue 65).run Tryz.prog w = .ok (xentV ⟨0, 0, 0, false⟩) w := by kernel_rfl
/-- How an entry reads. -/
def entD (e : Xent) : DataW Unit := .agg [.lit (.int .i64 e.n), .lit (.int .i64 e.off), .lit (.int .i64 e.gen), .lit (.bool e.used)]
theorem entD_inj {a b : Xent} (h : entD a = entD b) : a = b := by
  obtain ⟨a1, a2, a3, a4⟩ := a
  obtain ⟨b1, b2, b3, b4⟩ := b
  simp only [entD, DataW.agg.injEq, List.cons.injEq, DataW.lit.injEq, Lit.int.injEq, Lit.bool.injEq, true_and, and_true] at h
  obtain ⟨rfl, rfl, rfl, rfl⟩ := h
  rfl
theorem xentV_inj {a b : Xent} (h : xentV a = xentV b) : a = b := by
  obtain ⟨a1, a2, a3, a4⟩ := a
  obtain ⟨b1, b2, b3, b4⟩ := b
  simp only [xentV, Value.agg.injEq, Array.mk.injEq, List.cons.injEq, Value.int.injEq, Value.bool.injEq, true_and, and_true] at h
  obtain ⟨rfl, rfl, rfl, rfl⟩ := h
  rfl
open Classical in
noncomputable def entR (v : Value) : Option (DataW Unit × List MemPlace) := if h : ∃ e, v = xentV e then some (entD (Classical.choose h), []) else none
theorem entR_mk (e : Xent) : entR (xentV e) = some (entD e, []) := by
  have h : ∃ f, xentV e = xentV f := ⟨e, rfl⟩
  unfold entR
  rw [dif_pos h, ← xentV_inj (Classical.choose_spec h)]
theorem entR_inv {v : Value} {z : DataW Unit × List MemPlace} (h : entR v = some z) : ∃ e, v = xentV e ∧ z = (entD e, []) := by
  unfold entR at h
  split at h
  · rename_i hx
    injection h with h
    exact ⟨_, Classical.choose_spec hx, h.symm⟩
  · cases h
theorem wf_of {n : Int} (h : -9223372036854775808 ≤ n ∧ n ≤ 9223372036854775807) : (Lit.int .i64 n).wf = true := WalkArith.wf_i64 h

/-- Block b is a map of at most n entries; J tells what it holds. -/
def MIdx (w : World) (b n : Nat) (J : Int → Option Xent) : Prop :=
  ∃ D : DataW Unit, w.ownsMap Tryz.prog 3 entR b n D ∧
    ∀ key : Int, (∀ e, J key = some e → Maps.has D (.int .i64 key) = true ∧ ∀ zd, D.atKey (.int .i64 key) zd = entD e) ∧ (J key = none → Maps.has D (.int .i64 key) = false)
theorem MIdx.made (w : World) : MIdx (w.alloc (.map #[] 0)) w.heap.size 0 (fun _ => none) :=
  ⟨_, World.ownsMap_made w Tryz.prog 3 _, fun _ => ⟨fun _ h => (by simp at h), fun _ => rfl⟩⟩
theorem MIdx.kept {w w' : World} {b n : Nat} {J : Int → Option Xent} (h : MIdx w b n J) {r : Option Nat} (g : w.grownBy w' r) (hne : some b ≠ r) : MIdx w' b n J := by
  obtain ⟨D, ho, hJ⟩ := h
  exact ⟨D, ho.kept g hne, hJ⟩
theorem MIdx.keptK {w w' : World} {b n : Nat} {J : Int → Option Xent} (h : MIdx w b n J) (k : Kept w w') : MIdx w' b n J := h.kept (gbX k none) (by simp)
theorem MIdx.lt {w : World} {b n : Nat} {J : Int → Option Xent} (h : MIdx w b n J) : b < w.heap.size := by
  obtain ⟨D, ho, _⟩ := h; exact ho.lt
theorem MIdx.mono {w : World} {b n n' : Nat} {J : Int → Option Xent} (h : MIdx w b n J) (hn : n ≤ n') : MIdx w b n' J := by
  obtain ⟨D, ho, hJ⟩ := h; exact ⟨D, ho.mono hn, hJ⟩
theorem liti_ne {a b : Int} (h : a ≠ b) : (Lit.int .i64 a) ≠ .int .i64 b := fun e => h (by injection e)

section
variable {ops : Array Oper} {rest : List Oper} {o : Oper} {a : Act} {Q : Exit → Act → World → Prop} {w : World} {b n : Nat} {J : Int → Option Xent}

set_option maxRecDepth 100000 in
theorem wpList_mx_ok (hg : o.guard = none) (m x : Operand) (hop : o.op = Op.lookup 75 m x true) (hI : MIdx w b n J) (hm : a.eval m = .map (some b)) (key : Int) (hx : a.eval x = .int .i64 key) (hk : -9223372036854775808 ≤ key ∧ key ≤ 9223372036854775807)
    (hK : ∀ e : Xent, wpList Tryz.prog ops Q rest (a.put o.dst (.tuple #[xentV e, .bool (J key).isSome])) w) :
    wpList Tryz.prog ops Q (o :: rest) a w := by
  obtain ⟨D, ho, hJ⟩ := hI
  refine wpList_lookup_own_ok w hg m x 75 hop 3 65 kint Tryz.underlying75 entR (zero_xent w) (entD ⟨0, 0, 0, false⟩) [] (entR_mk _) b n D hm ho (.int .i64 key) (.int .i64 key) hx (keyOf_int_mk Tryz.underlying3 (wf_of hk)) ?_
  intro v ps hv
  obtain ⟨e, rfl, -⟩ := entR_inv hv
  have h2 : Maps.has D (.int .i64 key) = (J key).isSome := by
    cases hj : J key with
    | none => exact (hJ key).2 hj
    | some e => exact ((hJ key).1 e hj).1
  rw [h2]
  exact hK e

set_option maxRecDepth 100000 in
theorem wpList_mx_put (hg : o.guard = none) (m x v : Operand) (hop : o.op = Op.mapUpdate 75 m x v) (hI : MIdx w b n J) (hn : n < maxLen) (hm : a.eval m = .map (some b)) (key : Int) (hx : a.eval x = .int .i64 key) (hk : -9223372036854775808 ≤ key ∧ key ≤ 9223372036854775807) (e : Xent) (hv : a.eval v = xentV e)
    (hK : ∀ w', MIdx w' b (n + 1) (fun k => if k = key then some e else J k) → w.grownBy w' (some b) → wpList Tryz.prog ops Q rest (a.put o.dst undef) w') :
    wpList Tryz.prog ops Q (o :: rest) a w := by
  obtain ⟨D, ho, hJ⟩ := hI
  refine wpList_mapUpdate_own w hg m x v 75 hop 3 65 kint Tryz.underlying75 entR b n D hm ho hn (.int .i64 key) (xentV e) (.int .i64 key) hx hv (keyOf_int_mk Tryz.underlying3 (wf_of hk)) (entD e) [] (entR_mk e) ?_
  intro w' ho' hg'
  refine hK w' ⟨_, ho', fun k' => ⟨fun f hf => ?_, fun hf => ?_⟩⟩ hg'
  · by_cases h : k' = key
    · subst h
      simp only [if_true, Option.some.injEq] at hf
      subst hf
      exact ⟨has_put_same (ho.tidy kint).isMap (by trivial) _, fun zd => atKey_put_same (ho.tidy kint).isMap (by trivial) _ _⟩
    · simp only [if_neg h] at hf
      obtain ⟨h1, h2⟩ := (hJ k').1 f hf
      exact ⟨by rw [has_put_other (liti_ne h)]; exact h1, fun zd => by rw [atKey_put_other (liti_ne h)]; exact h2 zd⟩
  · by_cases h : k' = key
    · subst h; simp at hf
    · simp only [if_neg h] at hf
      rw [has_put_other (liti_ne h)]; exact (hJ k').2 hf
end

/-- What a range over the values of such a map gives: each key's entry once. -/
def AllOf (J : Int → Option Xent) (xs : List Xent) : Prop := ∃ ks : List Int, ks.Nodup ∧ (∀ k, k ∈ ks ↔ (J k).isSome = true) ∧ xs.map some = ks.map J

set_option maxRecDepth 100000 in
set_option maxHeartbeats 1000000 in
theorem valuesIter_in (F : Fence) (n : Nat) (h8 : F.fn 52) (hro : F.round = none) (hn : 1 ≤ n) (l Bm b nn : Nat) (JM : Int → Option Xent) (J Jx : List Xent → World → Prop)
    (hY : ∀ pre x W, J pre W → pre.length < nn → YieldAt F (n - 1) Tryz.prog l #[xentV x] W fun e W' =>
      (e = .returned (.bool true) ∧ J (pre ++ [x]) W' ∧ KeepsWalks W W') ∨ (e = .returned (.bool false) ∧ Jx (pre ++ [x]) W'))
    (W : World) (hJ : AbidesFrom W.heap.size J) (hm : W.cell? ⟨Bm, 0, none⟩ = some (.map (some b))) (hown : MIdx W b nn JM) (h0 : J [] W) :
    CallsIn F n Tryz.prog 52 #[.func (.yield l) #[] #[], .pointer (some ⟨Bm, 0, none⟩)] W fun e W' => (∃ v, e = .returned v) ∧
      ((∃ xs, AllOf JM xs ∧ J xs W') ∨ (∃ pre, Jx pre W')) := by
  obtain ⟨D0, hown, hD⟩ := hown
  have HD := Lib.hid hD
  have hsz := hown.size_le
  clear hD
  refine callsIn_of_wp Tryz.func52 rfl h8 ?_ hro
  simp only [Tryz.ntmps52, List.size_toArray, List.length_cons, List.length_nil, Nat.reduceAdd, Nat.reduceSub, Array.replicate_succ, Array.replicate_zero, List.push_toArray, List.append_toArray, List.nil_append, List.cons_append]
  gi_wp2_with (first
    | (gi_at_range; refine wpListIn_range_own _ rfl _ 75 rfl 3 65 kint Tryz.underlying75 _ b nn _ rfl hown ?_; intro w0 hrg0 hg0 hs0)
    | gi_in)
  go_frame
  gi_loopw [4] (fun _ wr => ∃ (left : Lit → Bool) (cnt : Nat) (ps : List (Int × Xent)), wr.ranges Tryz.prog 3 entR b W.heap.size nn D0 left cnt ∧ ps.length + cnt ≤ Maps.size D0 ∧ CollectedI D0 left (ps.map (·.1)) ∧ (∀ p ∈ ps, JM p.1 = some p.2) ∧ J (ps.map (·.2)) wr)
    (fun _ wr => wr.rangeLeft b W.heap.size)
  case atStart =>
    exact ⟨_, _, [], hrg0, by simp, CollectedI.start D0, by simp, hJ [] W w0 none h0 hg0 (fun r e => by cases e)⟩
  case round =>
    obtain ⟨left, cnt, ps, hrg, hcs, hC, hV, hJs⟩ := hrel
    gi_wp2_with (first
      | (gi_at_next; refine wpListIn_next_ranges _ rfl _ rfl 3 kint entR (Value.int .i64) xentV (fun key kl hk => by obtain ⟨x, hx, _⟩ := Maps.keyOf_i64 Tryz.underlying3 hk; exact ⟨x, hx⟩) (fun v y hv => by obtain ⟨e, he, _⟩ := entR_inv hv; exact ⟨e, he⟩) b W.heap.size nn _ _ _ rfl hrg ?_ ?_)
      | gi_in)
    · -- nothing is left
      intro hc0 hl0
      gi_wp2
      go_end0
      refine ⟨⟨_, rfl⟩, .inl ⟨_, ⟨ps.map (·.1), hC.1, fun k => ?_, ?_⟩, hJs⟩⟩
      · rw [hC.2 k, hl0]
        cases hj : JM k with
        | none => rw [(HD.out k).2 hj]; simp
        | some e => rw [((HD.out k).1 e hj).1]; simp
      · rw [List.map_map, List.map_map]
        refine List.map_congr_left (fun p hp => ?_)
        exact (hV p hp).symm
    · -- an entry has come
      intro x c kl yd yp w2 cnt2 hkey hlk hv hat hrg2 hlt hg2 hs2 hen
      obtain ⟨x', ex, rfl, _⟩ := Maps.keyOf_i64 Tryz.underlying3 hkey
      obtain rfl : x = x' := by injection ex
      obtain rfl : yd = entD c := by rw [entR_mk] at hv; exact (congrArg Prod.fst (Option.some.inj hv)).symm
      have hhas : Maps.has D0 (.int .i64 x) = true := has_true_of_atKey hat
      have hjx : JM x = some c := by
        cases hj : JM x with
        | none => rw [(HD.out x).2 hj] at hhas; cases hhas
        | some e =>
          have h1 := ((HD.out x).1 e hj).2 (.lit (.bool false))
          have h2 := hat (.lit (.bool false))
          rw [h1] at h2
          rw [entD_inj h2]
      have hJ2 : J (ps.map (·.2)) w2 := hJ _ wr w2 (some W.heap.size) hJs hg2 (fun r e => by cases e; exact ⟨Nat.le_refl _, hrg.iter_walk⟩)
      have hC2 : CollectedI D0 (fun z => left z && !z.sameKey (.int .i64 x)) ((ps ++ [(x, c)]).map (·.1)) := by simpa using hC.step hlk hat
      have hV2 : ∀ p ∈ ps ++ [(x, c)], JM p.1 = some p.2 := fun p hp => (List.mem_append.1 hp).elim (hV p) (fun e => by simp at e; subst e; exact hjx)
      clear hs2
      have hJ3 : J (ps.map (·.2)) (w2.alloc (.cells #[.int .i64 c.n, .int .i64 c.off, .int .i64 c.gen, .bool c.used] 65)) := hJ _ w2 _ none hJ2 (World.grownBy_alloc w2 _ none) (fun r e => by cases e)
      have hrg3 : (w2.alloc (.cells #[.int .i64 c.n, .int .i64 c.off, .int .i64 c.gen, .bool c.used] 65)).ranges Tryz.prog 3 entR b W.heap.size nn D0 (fun z => left z && !z.sameKey (.int .i64 x)) cnt2 := hrg2.alloc _
      obtain ⟨fn, tmps, assign, body, hy, hR⟩ := hY (ps.map (·.2)) c _ hJ3 (by simp; omega)
      unfold xentV at hy hen
      gi_wp2
      refine hR.mono ?_
      rintro e W3 (⟨rfl, hJ4, hk3⟩ | ⟨rfl, hJx3⟩)
      · gi_wp2
        have hrg4 := hrg3.of_walks hk3
        go_roundw
        case rel => exact ⟨_, cnt2, ps ++ [(x, c)], hrg4, by simp; omega, hC2, hV2, by simpa using hJ4⟩
        case measure => rw [hrg4.left_eq, hrg.left_eq]; exact hlt
      · gi_wp2
        refine bodyPost_ret (results_none rfl _ _ _) rfl ?_
        exact ⟨⟨_, rfl⟩, .inr ⟨_, hJx3⟩⟩

set_option maxHeartbeats 1000000 in
theorem Values_in (F : Fence) (n : Nat) (hf : F.fn 33) (hro : F.round = none) (mb : Option Nat) (w : World) :
    CallsIn F n Tryz.prog 33 #[.map mb] w fun e w' => e = .returned (.func (.func 52) #[] #[.pointer (some ⟨w.heap.size, 0, none⟩)]) ∧ w' = w.alloc (.cells #[.map mb] 75) := by
  refine callsIn_of_wp Tryz.func33 rfl hf ?_ hro
  simp only [Tryz.ntmps33, List.size_toArray, List.length_cons, List.length_nil, Nat.reduceAdd, Nat.reduceSub, Array.replicate_succ, Array.replicate_zero, List.push_toArray, List.append_toArray, List.nil_append, List.cons_append]
  gi_wp2
  go_ret
  exact ⟨rfl, rfl⟩

/-- What maps.Values hands back. -/
theorem values_stops (F : Fence) (n : Nat) (h7 : F.fn 52) (hro : F.round = none) (hn : 1 ≤ n) (Bm b nn : Nat) (JM : Int → Option Xent) (w : World) (hBm : Bm < w.heap.size)
    (hm : w.cell? ⟨Bm, 0, none⟩ = some (.map (some b))) (hown : MIdx w b nn JM) :
    SeqStops F n Tryz.prog 52 #[.pointer (some ⟨Bm, 0, none⟩)] xentV (AllOf JM) (fun _ => True) nn w := fun l J Jx W hW hJ _ hY h0 => by
  have hown' : MIdx W b nn JM := hown.kept (r := none) ⟨hW.os, hW.tape, hW.output, hW.size, fun j hj _ => hW.block j hj⟩ (by simp)
  exact (valuesIter_in F n h7 hro hn l Bm b nn JM J Jx hY W hJ ((hW.cell (p := ⟨Bm, 0, none⟩) hBm).trans hm) hown' h0).mono fun e W' ⟨hv, h⟩ => ⟨hv, h.elim .inl (fun ⟨pre, hp⟩ => .inr ⟨pre, trivial, hp⟩)⟩

end Go.Proofs.YtoablpaehhjchaaGreatDoor
