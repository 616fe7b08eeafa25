import Derived.Test.YtoablpaehhjchaaGreatDoorXrfRow
import Derived.Maps.OwnSet
import Derived.Maps.Own
import Derived.Maps.OwnOps
import Derived.Lib.SlKeysI
import Derived.Sort.MapsRangeIn
import Derived.RangeFuncNested
import Derived.RangeFuncBound
import Derived.RangeFuncCalls
import Derived.RangeFuncLeaves
import Derived.Shelf.Abstract
import Derived.Shelf.AbstractIn
import Derived.Shelf.RegionOpen
import Derived.OwnWalkIn
import Derived.TacticsInMore
import Derived.RegionIn
import Derived.LoopNIn
import Derived.LoopIn
import Derived.Maps.AppendAt
import Derived.Test.YtoablpaehhjchaaGreatDoorShelf
import Derived.Shelf.SlSortCmp.WholeK
import Derived.Shelf.SlSortCmp.NoneTotal
import Derived.Lib.AppendZeros
import Derived.Laws.AppendOwnNone
import Derived.OwnWalk
namespace Go.Proofs.YtoablpaehhjchaaGreatDoor
open Go.RowKit Go.Maps Go.Shelf Rx
set_option linter.unusedSimpArgs false
set_option linter.unusedVariables false

theorem kint : Keyed Tryz.prog 3 := int_keyed Tryz.underlying3
theorem zero_xent (w : World) : (zeroValue 65).run Tryz.prog w = .ok (xentV ⟨0, 0, 0, false⟩) w := by kernel_rfl

def entD (e : Xent) : DataW Unit := .agg [.lit (.int .i64 e.n), .lit (.int .i64 e.off), .lit (.int .i64 e.gen), .lit (.bool e.used)]
theorem entD_inj {a b : Xent} (h : entD a = entD b) : a = b := by
  obtain ⟨a1, a2, a3, a4⟩ := a
  obtain ⟨b1, b2, b3, b4⟩ := b
  simp only [entD, DataW.agg.injEq, List.cons.injEq, DataW.lit.injEq, Lit.int.injEq, Lit.bool.injEq, true_and, and_true] at h
  obtain ⟨rfl, rfl, rfl, rfl⟩ := h
  rfl
theorem xentV_inj {a b : Xent} (h : xentV a = xentV b) : a = b := by
  obtain ⟨a1, a2, a3, a4⟩ := a
  obtain ⟨b1, b2, b3, b4⟩ := b
  simp only [xentV, Value.agg.injEq, Array.mk.injEq, List.cons.injEq, Value.int.injEq, Value.bool.injEq, true_and, and_true] at h
  obtain ⟨rfl, rfl, rfl, rfl⟩ := h
  rfl
open Classical in
noncomputable def entR (v : Value) : Option (DataW Unit × List MemPlace) := if h : ∃ e, v = xentV e then some (entD (Classical.choose h), []) else none
theorem entR_mk (e : Xent) : entR (xentV e) = some (entD e, []) := by
  have h : ∃ f, xentV e = xentV f := ⟨e, rfl⟩
  unfold entR
  rw [dif_pos h, ← xentV_inj (Classical.choose_spec h)]
theorem entR_inv {v : Value} {z : DataW Unit × List MemPlace} (h : entR v = some z) : ∃ e, v = xentV e ∧ z = (entD e, []) := by
  unfold entR at h
  split at h
  · rename_i hx
    injection h with h
    exact ⟨_, Classical.choose_spec hx, h.symm⟩
  · cases h
theorem wf_of {n : Int} (h : -9223372036854775808 ≤ n ∧ n ≤ 9223372036854775807) : (Lit.int .i64 n).wf = true := WalkArith.wf_i64 h

def MIdx (w : World) (b n : Nat) (J : Int → Option Xent) : Prop :=
  ∃ D : DataW Unit, w.ownsMap Tryz.prog 3 entR b n D ∧
    ∀ key : Int, (∀ e, J key = some e → Maps.has D (.int .i64 key) = true ∧ ∀ zd, D.atKey (.int .i64 key) zd = entD e) ∧ (J key = none → Maps.has D (.int .i64 key) = false)
theorem MIdx.made (w : World) : MIdx (w.alloc (.map #[] 0)) w.heap.size 0 (fun _ => none) :=
  ⟨_, World.ownsMap_made w Tryz.prog 3 _, fun _ => ⟨fun _ h => (by simp at h), fun _ => rfl⟩⟩
theorem MIdx.kept {w w' : World} {b n : Nat} {J : Int → Option Xent} (h : MIdx w b n J) {r : Option Nat} (g : w.grownBy w' r) (hne : some b ≠ r) : MIdx w' b n J := by
  obtain ⟨D, ho, hJ⟩ := h
  exact ⟨D, ho.kept g hne, hJ⟩
theorem MIdx.keptK {w w' : World} {b n : Nat} {J : Int → Option Xent} (h : MIdx w b n J) (k : Kept w w') : MIdx w' b n J := h.kept (gbX k none) (by simp)
theorem MIdx.lt {w : World} {b n : Nat} {J : Int → Option Xent} (h : MIdx w b n J) : b < w.heap.size := by
  obtain ⟨D, ho, _⟩ := h; exact ho.lt
theorem MIdx.mono {w : World} {b n n' : Nat} {J : Int → Option Xent} (h : MIdx w b n J) (hn : n ≤ n') : MIdx w b n' J := by
  obtain ⟨D, ho, hJ⟩ := h; exact ⟨D, ho.mono hn, hJ⟩
theorem liti_ne {a b : Int} (h : a ≠ b) : (Lit.int .i64 a) ≠ .int .i64 b := fun e => h (by injection e)

section
variable {ops : Array Oper} {rest : List Oper} {o : Oper} {a : Act} {Q : Exit → Act → World → Prop} {w : World} {b n : Nat} {J : Int → Option Xent}

set_option maxRecDepth 100000 in
theorem wpList_mx_ok (hg : o.guard = none) (m x : Operand) (hop : o.op = Op.lookup 75 m x true) (hI : MIdx w b n J) (hm : a.eval m = .map (some b)) (key : Int) (hx : a.eval x = .int .i64 key) (hk : -9223372036854775808 ≤ key ∧ key ≤ 9223372036854775807)
    (hK : ∀ e : Xent, wpList Tryz.prog ops Q rest (a.put o.dst (.tuple #[xentV e, .bool (J key).isSome])) w) :
    wpList Tryz.prog ops Q (o :: rest) a w := by
  obtain ⟨D, ho, hJ⟩ := hI
  refine wpList_lookup_own_ok w hg m x 75 hop 3 65 kint Tryz.underlying75 entR (zero_xent w) (entD ⟨0, 0, 0, false⟩) [] (entR_mk _) b n D hm ho (.int .i64 key) (.int .i64 key) hx (keyOf_int_mk Tryz.underlying3 (wf_of hk)) ?_
  intro v ps hv
  obtain ⟨e, rfl, -⟩ := entR_inv hv
  have h2 : Maps.has D (.int .i64 key) = (J key).isSome := by
    cases hj : J key with
    | none => exact (hJ key).2 hj
    | some e => exact ((hJ key).1 e hj).1
  rw [h2]
  exact hK e

set_option maxRecDepth 100000 in
theorem wpList_mx_put (hg : o.guard = none) (m x v : Operand) (hop : o.op = Op.mapUpdate 75 m x v) (hI : MIdx w b n J) (hn : n < maxLen) (hm : a.eval m = .map (some b)) (key : Int) (hx : a.eval x = .int .i64 key) (hk : -9223372036854775808 ≤ key ∧ key ≤ 9223372036854775807) (e : Xent) (hv : a.eval v = xentV e)
    (hK : ∀ w', MIdx w' b (n + 1) (fun k => if k = key then some e else J k) → w.grownBy w' (some b) → wpList Tryz.prog ops Q rest (a.put o.dst undef) w') :
    wpList Tryz.prog ops Q (o :: rest) a w := by
  obtain ⟨D, ho, hJ⟩ := hI
  refine wpList_mapUpdate_own w hg m x v 75 hop 3 65 kint Tryz.underlying75 entR b n D hm ho hn (.int .i64 key) (xentV e) (.int .i64 key) hx hv (keyOf_int_mk Tryz.underlying3 (wf_of hk)) (entD e) [] (entR_mk e) ?_
  intro w' ho' hg'
  refine hK w' ⟨_, ho', fun k' => ⟨fun f hf => ?_, fun hf => ?_⟩⟩ hg'
  · by_cases h : k' = key
    · subst h
      simp only [if_true, Option.some.injEq] at hf
      subst hf
      exact ⟨has_put_same (ho.tidy kint).isMap (by trivial) _, fun zd => atKey_put_same (ho.tidy kint).isMap (by trivial) _ _⟩
    · simp only [if_neg h] at hf
      obtain ⟨h1, h2⟩ := (hJ k').1 f hf
      exact ⟨by rw [has_put_other (liti_ne h)]; exact h1, fun zd => by rw [atKey_put_other (liti_ne h)]; exact h2 zd⟩
  · by_cases h : k' = key
    · subst h; simp at hf
    · simp only [if_neg h] at hf
      rw [has_put_other (liti_ne h)]; exact (hJ k').2 hf
end

def AllOf (J : Int → Option Xent) (xs : List Xent) : Prop := ∃ ks : List Int, ks.Nodup ∧ (∀ k, k ∈ ks ↔ (J k).isSome = true) ∧ xs.map some = ks.map J

set_option maxRecDepth 100000 in
set_option maxHeartbeats 1000000 in
theorem valuesIter_in (F : Fence) (n : Nat) (h8 : F.fn 52) (hro : F.round = none) (hn : 1 ≤ n) (l Bm b nn : Nat) (JM : Int → Option Xent) (J Jx : List Xent → World → Prop)
    (hY : ∀ pre x W, J pre W → pre.length < nn → YieldAt F (n - 1) Tryz.prog l #[xentV x] W fun e W' =>
      (e = .returned (.bool true) ∧ J (pre ++ [x]) W' ∧ KeepsWalks W W') ∨ (e = .returned (.bool false) ∧ Jx (pre ++ [x]) W'))
    (W : World) (hJ : AbidesFrom W.heap.size J) (hm : W.cell? ⟨Bm, 0, none⟩ = some (.map (some b))) (hown : MIdx W b nn JM) (h0 : J [] W) :
    CallsIn F n Tryz.prog 52 #[.func (.yield l) #[] #[], .pointer (some ⟨Bm, 0, none⟩)] W fun e W' => (∃ v, e = .returned v) ∧
      ((∃ xs, AllOf JM xs ∧ J xs W') ∨ (∃ pre, Jx pre W')) := by
  obtain ⟨D0, hown, hD⟩ := hown
  have HD := Lib.hid hD
  have hsz := hown.size_le
  clear hD
  refine callsIn_of_wp Tryz.func52 rfl h8 ?_ hro
  simp only [Tryz.ntmps52, List.size_toArray, List.length_cons, List.length_nil, Nat.reduceAdd, Nat.reduceSub, Array.replicate_succ, Array.replicate_zero, List.push_toArray, List.append_toArray, List.nil_append, List.cons_append]
  gi_wp2_with (first
    | (gi_at_range; refine wpListIn_range_own _ rfl _ 75 rfl 3 65 kint Tryz.underlying75 _ b nn _ rfl hown ?_; intro w0 hrg0 hg0 hs0)
    | gi_in)
  go_frame
  gi_loopw [4] (fun _ wr => ∃ (left : Lit → Bool) (cnt : Nat) (ps : List (Int × Xent)), wr.ranges Tryz.prog 3 entR b W.heap.size nn D0 left cnt ∧ ps.length + cnt ≤ Maps.size D0 ∧ CollectedI D0 left (ps.map (·.1)) ∧ (∀ p ∈ ps, JM p.1 = some p.2) ∧ J (ps.map (·.2)) wr)
    (fun _ wr => wr.rangeLeft b W.heap.size)
  case atStart =>
    exact ⟨_, _, [], hrg0, by simp, CollectedI.start D0, by simp, hJ [] W w0 none h0 hg0 (fun r e => by cases e)⟩
  case round =>
    obtain ⟨left, cnt, ps, hrg, hcs, hC, hV, hJs⟩ := hrel
    gi_wp2_with (first
      | (gi_at_next; refine wpListIn_next_ranges _ rfl _ rfl 3 kint entR (Value.int .i64) xentV (fun key kl hk => by obtain ⟨x, hx, _⟩ := Maps.keyOf_i64 Tryz.underlying3 hk; exact ⟨x, hx⟩) (fun v y hv => by obtain ⟨e, he, _⟩ := entR_inv hv; exact ⟨e, he⟩) b W.heap.size nn _ _ _ rfl hrg ?_ ?_)
      | gi_in)
    · -- nothing is left
      intro hc0 hl0
      gi_wp2
      go_end0
      refine ⟨⟨_, rfl⟩, .inl ⟨_, ⟨ps.map (·.1), hC.1, fun k => ?_, ?_⟩, hJs⟩⟩
      · rw [hC.2 k, hl0]
        cases hj : JM k with
        | none => rw [(HD.out k).2 hj]; simp
        | some e => rw [((HD.out k).1 e hj).1]; simp
      · rw [List.map_map, List.map_map]
        refine List.map_congr_left (fun p hp => ?_)
        exact (hV p hp).symm
    · -- an entry has come
      intro x c kl yd yp w2 cnt2 hkey hlk hv hat hrg2 hlt hg2 hs2 hen
      obtain ⟨x', ex, rfl, _⟩ := Maps.keyOf_i64 Tryz.underlying3 hkey
      obtain rfl : x = x' := by injection ex
      obtain rfl : yd = entD c := by rw [entR_mk] at hv; exact (congrArg Prod.fst (Option.some.inj hv)).symm
      have hhas : Maps.has D0 (.int .i64 x) = true := has_true_of_atKey hat
      have hjx : JM x = some c := by
        cases hj : JM x with
        | none => rw [(HD.out x).2 hj] at hhas; cases hhas
        | some e =>
          have h1 := ((HD.out x).1 e hj).2 (.lit (.bool false))
          have h2 := hat (.lit (.bool false))
          rw [h1] at h2
          rw [entD_inj h2]
      have hJ2 : J (ps.map (·.2)) w2 := hJ _ wr w2 (some W.heap.size) hJs hg2 (fun r e => by cases e; exact ⟨Nat.le_refl _, hrg.iter_walk⟩)
      have hC2 : CollectedI D0 (fun z => left z && !z.sameKey (.int .i64 x)) ((ps ++ [(x, c)]).map (·.1)) := by simpa using hC.step hlk hat
      have hV2 : ∀ p ∈ ps ++ [(x, c)], JM p.1 = some p.2 := fun p hp => (List.mem_append.1 hp).elim (hV p) (fun e => by simp at e; subst e; exact hjx)
      clear hs2
      have hJ3 : J (ps.map (·.2)) (w2.alloc (.cells #[.int .i64 c.n, .int .i64 c.off, .int .i64 c.gen, .bool c.used] 65)) := hJ _ w2 _ none hJ2 (World.grownBy_alloc w2 _ none) (fun r e => by cases e)
      have hrg3 : (w2.alloc (.cells #[.int .i64 c.n, .int .i64 c.off, .int .i64 c.gen, .bool c.used] 65)).ranges Tryz.prog 3 entR b W.heap.size nn D0 (fun z => left z && !z.sameKey (.int .i64 x)) cnt2 := hrg2.alloc _
      obtain ⟨fn, tmps, assign, body, hy, hR⟩ := hY (ps.map (·.2)) c _ hJ3 (by simp; omega)
      unfold xentV at hy hen
      gi_wp2
      refine hR.mono ?_
      rintro e W3 (⟨rfl, hJ4, hk3⟩ | ⟨rfl, hJx3⟩)
      · gi_wp2
        have hrg4 := hrg3.of_walks hk3
        go_roundw
        case rel => exact ⟨_, cnt2, ps ++ [(x, c)], hrg4, by simp; omega, hC2, hV2, by simpa using hJ4⟩
        case measure => rw [hrg4.left_eq, hrg.left_eq]; exact hlt
      · gi_wp2
        refine bodyPost_ret (results_none rfl _ _ _) rfl ?_
        exact ⟨⟨_, rfl⟩, .inr ⟨_, hJx3⟩⟩

set_option maxHeartbeats 1000000 in
theorem Values_in (F : Fence) (n : Nat) (hf : F.fn 33) (hro : F.round = none) (mb : Option Nat) (w : World) :
    CallsIn F n Tryz.prog 33 #[.map mb] w fun e w' => e = .returned (.func (.func 52) #[] #[.pointer (some ⟨w.heap.size, 0, none⟩)]) ∧ w' = w.alloc (.cells #[.map mb] 75) := by
  refine callsIn_of_wp Tryz.func33 rfl hf ?_ hro
  simp only [Tryz.ntmps33, List.size_toArray, List.length_cons, List.length_nil, Nat.reduceAdd, Nat.reduceSub, Array.replicate_succ, Array.replicate_zero, List.push_toArray, List.append_toArray, List.nil_append, List.cons_append]
  gi_wp2
  go_ret
  exact ⟨rfl, rfl⟩

theorem values_stops (F : Fence) (n : Nat) (h7 : F.fn 52) (hro : F.round = none) (hn : 1 ≤ n) (Bm b nn : Nat) (JM : Int → Option Xent) (w : World) (hBm : Bm < w.heap.size)
    (hm : w.cell? ⟨Bm, 0, none⟩ = some (.map (some b))) (hown : MIdx w b nn JM) :
    SeqStops F n Tryz.prog 52 #[.pointer (some ⟨Bm, 0, none⟩)] xentV (AllOf JM) (fun _ => True) nn w := fun l J Jx W hW hJ _ hY h0 => by
  have hown' : MIdx W b nn JM := hown.kept (r := none) ⟨hW.os, hW.tape, hW.output, hW.size, fun j hj _ => hW.block j hj⟩ (by simp)
  exact (valuesIter_in F n h7 hro hn l Bm b nn JM J Jx hY W hJ ((hW.cell (p := ⟨Bm, 0, none⟩) hBm).trans hm) hown' h0).mono fun e W' ⟨hv, h⟩ => ⟨hv, h.elim .inl (fun ⟨pre, hp⟩ => .inr ⟨pre, trivial, hp⟩)⟩

end Go.Proofs.YtoablpaehhjchaaGreatDoor

namespace Go.Proofs.YtoablpaehhjchaaGreatDoor
open Go.RowKit Go.Maps Go.Shelf Rx
set_option linter.unusedSimpArgs false
set_option linter.unusedVariables false
attribute [local go_sem] Oper.semAt_some

theorem blk_own {β : Type} (cs : Array Value) (t : TypeId) (B : Nat) : Own (fun (_ : β) W => Blk W B cs t) := fun s X Y row hs hg hrow =>
  (hg.block B hs.lt (fun e' => by obtain ⟨o, ho, hc⟩ := hrow B e'.symm; rw [show X.heap[B]? = _ from hs] at ho; cases ho; cases hc)).trans hs

set_option maxRecDepth 100000 in
set_option maxHeartbeats 2000000 in
theorem AppendSeq_in (F : Fence) (n : Nat) (hf : F.fn 78) (hro : F.round = none) (hn : 3 ≤ n) (gf : Nat) (lb : Array Value) (hF : F.fn gf) (eg : ∀ args w, (callFunc gf args).run Tryz.prog w = .ok (.enter gf args) w)
    {S Sp : List Xent → Prop} {N : Nat} (hN : N ≤ 1099511627776) (w w0 : World) (hb0 : Below w0.heap.size w0 w) (hseq : SeqStops F (n - 1) Tryz.prog gf lb xentV S Sp N w0) :
    CallsIn F n Tryz.prog 78 #[.slice none 0 0, .func (.func gf) #[] lb] w fun e W' => ∃ v xs, e = .returned v ∧ S xs ∧ Ents 65 W' w.heap.size v xs ∧ Below w.heap.size w W' := by
  have h1 : 1 ≤ n := by omega
  obtain ⟨i0, hi, hz0, hz1, hz2⟩ := info_parts info_xent
  refine callsIn_of_wp_marks Tryz.func78 rfl hf ?_ hro
  simp only [Tryz.ntmps78, List.size_toArray, List.length_cons, List.length_nil, Nat.reduceAdd, Nat.reduceSub, Array.replicate_succ, Array.replicate_zero, List.push_toArray, List.append_toArray, List.nil_append, List.cons_append]
  gi_wp2
  have bO := Boxed.new w 22 (.slice none 0 0)
  have hB0 : Below w.heap.size w (w.alloc (.cells #[.slice none 0 0] 22)) := (Below.refl _ w).alloc (Nat.le_refl _) _
  have hsz : (w.alloc (.cells #[.slice none 0 0] 22)).heap.size = w.heap.size + 1 := by simp
  have hbw : Below w0.heap.size w0 (w.alloc (.cells #[.slice none 0 0] 22)) := hb0.trans (hB0.mono hb0.size)
  obtain ⟨W0, hW0⟩ : ∃ W0, w.alloc (.cells #[.slice none 0 0] 22) = W0 := ⟨_, rfl⟩
  rw [hW0] at bO hB0 hsz hbw ⊢
  clear hW0
  refine wpIn_rangeFunc_ownH hro h1 (gf := gf) (lb := lb) rfl hF eg
    (show SeqStopsK F (n - 1) Tryz.prog gf lb (fun x => #[xentV x]) KeepsWalks S Sp N w0 from hseq) walksK_t walksK_b hbw (fun _ => rfl)
    (fun pre W => (∃ v, Boxed W w.heap.size 22 v ∧ W.ownsRow w.heap.size 65 4 v pre.length (entC pre) ∧ True) ∧ Below w.heap.size w W)
    (fun _ _ _ => False)
    (OwnFrom.and (Own.from (holdsRow_own w.heap.size w.heap.size 22 65 4 (fun pre => pre.length) (fun pre => entC pre) (fun _ _ => True)) _) (ownFrom_below (Nat.le_refl _) (by omega)))
    (fun _ _ _ _ _ hs _ _ => hs)
    ⟨⟨_, bO, World.ownsRow_nil _ _ _ _, trivial⟩, hB0⟩
    (fun x a' W => ∃ Bx, w.heap.size < Bx ∧ Blk W Bx #[.int .i64 x.n, .int .i64 x.off, .int .i64 x.gen, .bool x.used] 65 ∧ a' = { tmps := #[.slice none 0 0, .func (.func gf) #[] lb, .pointer (some ⟨w.heap.size, 0, none⟩), undef, .slice none 0 0, .pointer (some ⟨Bx, 0, none⟩), .func (.func gf) #[] lb, xentV x, undef, undef, undef, undef, undef], defers := [] })
    (fun x a' _ X Y row hs hg hr => by obtain ⟨Bx, h1, h2, h3⟩ := hs; exact ⟨Bx, h1, blk_own _ _ Bx () X Y row h2 hg (fun r e => (hr r e).2), h3⟩)
    ?assign ?body ?done ?stop
  case assign =>
    rintro l pre x W K ⟨⟨v, bS1, hrow, ht⟩, hB1⟩ hK
    have KK := Lib.hid hK
    have hrA := hrow.alloc (.cells #[.int .i64 x.n, .int .i64 x.off, .int .i64 x.gen, .bool x.used] 65)
    unfold xentV at hK ⊢
    clear hK
    gi_wp2
    exact KK.out _ _ ((KeepsOthers.alloc _ _).from _) (KeepsWalks.alloc _ _) ⟨⟨v, bS1.alloc _, hrA, trivial⟩, hB1.alloc hB1.size _⟩ ⟨W.heap.size, bS1.lt, Blk.fresh W _ _, rfl⟩
  case body =>
    rintro l pre x a' W hl ⟨r, hr⟩ ⟨⟨v, hv, hrow, -⟩, hB⟩ ⟨Bx, hBx, bX, rfl⟩ hlt
    have hc := hv.cell
    obtain ⟨c0, c1, c2, c3⟩ := bX.cells4
    have BX := Lib.hid bX
    clear bX
    gi_wp2_with (gi_at_builtin; refine wpListIn_append_own _ rfl _ _ 22 rfl w.heap.size 65 i0 _ 4 32 Tryz.underlying22 hi hz0 hz1 hz2 rfl (by decide) _ _ _ rfl (hrow.alloc _) ⟨W.heap.size, 0, none⟩ 1 1 (entc x) rfl rfl (by intro j u hj; rw [Addr.add_lit, Nat.zero_add]; exact ((Blk.fresh W (entc x).toArray 65).cell j).trans (by simpa using hj)) (by intro u hu; simp only [entc, List.mem_cons, List.not_mem_nil, or_false] at hu; rcases hu with rfl | rfl | rfl | rfl <;> rfl) (by unfold maxLen; omega) (by omega) (by have := hB.size; simp; omega) ?_; intro v' w1 hown' hgrow _; obtain ⟨g', cap', rfl⟩ := ownsRow_succ hown'; obtain ⟨hv1, hv2, hr2, hk2, hb2⟩ := hv.appended (by decide) hrow hB.size (Nat.le_refl _) hown' hgrow; have hc1 := hv1.cell; have hf1 := hv1.frozen)
    refine ⟨hk2.from _, ?_, ⟨⟨_, hv2, ?_, trivial⟩, hB.trans hb2⟩⟩
    · exact hk2.walks
    · rw [List.length_append, entC_app, entC_one]; exact hr2
  case done =>
    rintro D ys W hD hS ⟨⟨v, hv, hrow, -⟩, hB⟩ hK
    have hc := hv.cell
    gi_wp2
    refine ⟨by simp, .inl ⟨_, _, rfl, run_takeDeferred hK, ?_⟩⟩
    exact ⟨_, results_tmp rfl _ _ _, v, ys, rfl, hS, ownsRow_putObj hrow _ hK rfl, hB.trans (belowK_b (w := w) (Nat.le_refl _) W D _ _ (by omega) hK rfl rfl)⟩
  case stop =>
    rintro D c pre W _ _ h _
    exact h.elim

end Go.Proofs.YtoablpaehhjchaaGreatDoor

namespace Go.Proofs.YtoablpaehhjchaaGreatDoor
open Go.RowKit Go.Maps Go.Shelf Rx
set_option linter.unusedSimpArgs false
set_option linter.unusedVariables false

def cmpE (x y : Xent) : Int := Lib.compareInt x.n y.n
theorem ltE (x y : Xent) : ltOf cmpE x y = decide (x.n < y.n) := by
  unfold ltOf cmpE Lib.compareInt
  by_cases h1 : x.n < y.n
  · simp [h1]
  · by_cases h2 : y.n < x.n <;> simp [h1, h2]
theorem swoE : Go.Sort.SWO (ltOf cmpE) where
  irrefl x := by rw [ltE]; simp
  trans x y z h1 h2 := by rw [ltE] at *; simp at *; omega
  ntrans x y z h1 h2 := by rw [ltE] at *; simp at *; omega

set_option maxHeartbeats 1000000 in
theorem byNumber_any (x y : Xent) (W : World) : Calls Tryz.prog 34 #[xentV x, xentV y] W fun e w' => e = .returned (.int .i64 (cmpE x y)) ∧ ∃ q os', w' = Go.Sort.grow (W.drewN q) os' := by
  have hcon := fun W' => Tryz.cmp_Compare_int x.n y.n W'
  unfold cmpE xentV
  generalize Lib.compareInt x.n y.n = r at hcon ⊢
  go_enter Tryz.func34, Tryz.ntmps34
  go_wp2_with (go_at_call 53; refine (hcon _).mono ?_; rintro e w' ⟨rfl, rfl⟩)
  go_ret
  exact ⟨rfl, 0, _, by rw [Go.Sort.alloc_eq_grow, Go.Sort.alloc_eq_grow, Go.Sort.grow_grow]; rfl⟩

theorem flat_ents (ts : List Xent) : Go.Sort.flatK entc 4 ts.toArray = (entC ts).toArray := by
  apply Array.ext
  · rw [Go.Sort.size_flatK]; simp [entC_len]; omega
  · intro t h1 h2
    have h3 : t < ts.length * 4 := by simpa using h1
    have hg := Go.Sort.get_flatK entc 4 ts.toArray t (by simpa using h3)
    rw [getElem!_pos _ t h1] at hg
    rw [hg]
    have hi : t / 4 < ts.length := by omega
    have hq : t % 4 < 4 := Nat.mod_lt _ (by decide)
    have he := entC_get ts (t / 4) hi (t % 4) hq
    rw [show t / 4 * 4 + t % 4 = t by omega] at he
    have e1 : ts.toArray[t / 4]! = ts[t / 4] := by rw [getElem!_pos _ (t / 4) (by simpa using hi)]; simp
    rw [e1]
    have h4 : t < (entC ts).length := by simpa using h2
    rw [List.getElem?_eq_getElem h4, List.getElem?_eq_getElem (show t % 4 < (entc ts[t / 4]).length by rw [entc_len]; omega)] at he
    rw [getElem!_pos _ (t % 4) (by rw [entc_len]; omega)]
    have := Option.some.inj he
    simp only [List.getElem_toArray]
    exact this.symm

theorem heap_sortedE {w : World} {g n : Nat} {os : Array Obj} {cur : Array Value} {e : TypeId} {fr : Nat × Nat} (d : Array Value) (hb : w.heap[g]? = some (.cells cur e fr)) :
    (Go.Sort.grow (Go.Sort.putRow id (Go.Sort.ahead w n) g 0 d) os).heap[g]? = some (.cells (Go.Sort.putCells id 0 d cur) e fr) := by
  have hg : g < w.heap.size := (Array.getElem?_eq_some_iff.1 hb).1
  rw [Go.Sort.heap_grow_old _ _ (by simpa using hg)]
  simp [Go.Sort.putRow, Go.Sort.mapBlock, Go.Sort.ahead, Array.getElem?_modify, hb, Go.Sort.onCells]
theorem grown_sortedE {w : World} {g n : Nat} {os : Array Obj} (d : Array Value) : w.grownBy (Go.Sort.grow (Go.Sort.putRow id (Go.Sort.ahead w n) g 0 d) os) (some g) := by
  refine ⟨rfl, rfl, rfl, by simp, fun k hk hne => ?_⟩
  rw [Go.Sort.heap_grow_old _ _ (by simpa using hk)]
  have : g ≠ k := fun e => hne (by rw [e])
  simp [Go.Sort.putRow, Go.Sort.mapBlock, Go.Sort.ahead, Array.getElem?_modify, this]
theorem take_putE (cur : Array Value) (vs : List Value) (h : vs.length ≤ cur.size) : (Go.Sort.putCells id 0 vs.toArray cur).toList.take vs.length = vs := by
  apply List.ext_getElem?
  intro j
  by_cases hj : j < vs.length
  · rw [List.getElem?_take_of_lt hj, Array.getElem?_toList]
    simp [Go.Sort.putCells, hj, show j < cur.size by omega]
  · rw [List.getElem?_take_eq_none (by omega), List.getElem?_eq_none (by omega)]
theorem perm_lists {d d' : Array Xent} (h : Go.Sort.PermIn 0 d.size d d') : d'.toList.Perm d.toList ∧ d'.size = d.size := by
  obtain ⟨hsz, _, hp⟩ := h
  have e1 : d'.extract 0 d.size = d' := by rw [← hsz]; exact Array.extract_size
  rw [e1, Array.extract_size] at hp
  exact ⟨hp, hsz⟩

set_option maxRecDepth 100000 in
theorem SortFunc_any (ts : List Xent) (g cap B : Nat) (w : World) (h : Ents 65 w B (.slice (some ⟨g, 0, none⟩) ts.length cap) ts) (hlen : ts.length ≤ 1099511627776) :
    Calls Tryz.prog 51 #[.slice (some ⟨g, 0, none⟩) ts.length cap, .func (.func 34) #[] #[]] w fun e w' =>
      e = .returned (.tuple #[]) ∧ ∃ ss : List Xent, ss.Perm ts ∧ ss.Pairwise (fun a b => a.n ≤ b.n) ∧ Ents 65 w' B (.slice (some ⟨g, 0, none⟩) ts.length cap) ss ∧ w.grownBy w' (some g) := by
  have eg : ∀ args w, (callFunc 34 args).run Tryz.prog w = .ok (.enter 34 args) w := enters_of Tryz.func34 (by kernel_rfl) rfl
  rcases h.2 with ⟨he, _⟩ | ⟨g', cap', cur, he, hb, hh, hn, hc, hs, ht⟩
  · cases he
  injection he with e1 e2 e3
  injection e1 with e1
  injection e1 with e1
  subst e1 e3
  have hcl := entC_len ts
  have hH : Go.Sort.HoldsK entc 4 w g 0 ts.toArray := by
    unfold Go.Sort.HoldsK
    rw [flat_ents]
    intro j hj
    have hj' : j < (entC ts).length := by simpa using hj
    refine ⟨?_, by simp [World.frozen?, hh]⟩
    rw [Nat.zero_add, World.ownsRow.cellAt h j (by omega), getElem!_pos _ j hj]
    rw [List.getElem?_eq_getElem hj']; simp
  refine (AnyQ.slices_SortFunc Tryz.sortE 4 Tryz.isAgg65 Tryz.sizeOf65 entc entc_len (fun x v hv => by simp only [entc, List.mem_cons, List.not_mem_nil, or_false] at hv; rcases hv with rfl | rfl | rfl | rfl <;> rfl) cmpE swoE 34 #[] g 0 cap ts.toArray w eg (fun _ _ _ _ x y => byNumber_any x y _) hH (World.ownsRow.lt h g rfl).2 (by simp; omega)).mono ?_
  rintro e w' ⟨he, d', n, os, hp, hso, hw⟩
  obtain ⟨hperm, hsz⟩ := perm_lists hp
  have hl : d'.toList.length = ts.length := by simpa using hsz
  have hfl : Go.Sort.flatK entc 4 d' = (entC d'.toList).toArray := by have := flat_ents d'.toList; simpa using this
  refine ⟨he, d'.toList, by simpa using hperm, ?_, ?_, ?_⟩
  · rw [List.pairwise_iff_getElem]
    intro i j hi hj hij
    have hi' : i < d'.size := by simpa using hi
    have hj' : j < d'.size := by simpa using hj
    have := hso i j (Nat.zero_le _) hij (by rw [← hsz]; exact hj')
    rw [ltE, decide_eq_false_iff_not, getElem!_pos _ i hi', getElem!_pos _ j hj'] at this
    simp only [Array.getElem_toList]; omega
  · subst hw
    unfold Ents sortWorldK Go.Sort.putRowK
    rw [hfl]
    have hcl2 := entC_len d'.toList
    rw [hl] at hcl2
    refine ⟨by rw [hcl2, hl]; omega, .inr ⟨g, cap, _, by rw [hl], hb, heap_sortedE _ hh, by rw [hl]; exact hn, hc, by simp [Go.Sort.putCells]; exact hs, ?_⟩⟩
    have := take_putE cur (entC d'.toList) (by rw [hcl2, hs]; omega)
    rw [hcl2] at this
    rw [hl, show ts.length * 4 = 4 * ts.length by omega]
    exact this
  · subst hw
    exact grown_sortedE _

theorem Collect_any {gf : Nat} {lb : Array Value} (eg : ∀ args w, (callFunc gf args).run Tryz.prog w = .ok (.enter gf args) w)
    {S Sp : List Xent → Prop} {N : Nat} (hN : N ≤ 1099511627776) (w w0 : World) (hb0 : Below w0.heap.size w0 w) (hseq : SeqStops Fence.wide 4 Tryz.prog gf lb xentV S Sp N w0) :
    Calls Tryz.prog 50 #[.func (.func gf) #[] lb] w fun e W' => ∃ v xs, e = .returned v ∧ S xs ∧ Ents 65 W' w.heap.size v xs ∧ Kept w W' := by
  have hcon := callsIn_wide.1 (AppendSeq_in Fence.wide 5 trivial rfl (by decide) gf lb trivial eg hN w w0 hb0 hseq)
  have HC := Lib.hid hcon
  clear hcon
  go_enter Tryz.func50, Tryz.ntmps50
  go_wp2_with (go_at_call 78; refine HC.out.mono ?_; rintro e w' ⟨v, xs, rfl, hS, ho, hk⟩)
  go_ret
  exact ⟨v, xs, rfl, hS, ho, hk⟩

theorem Kept.sorted {w w1 w2 : World} {g : Nat} (h : Kept w w1) (hg : w1.grownBy w2 (some g)) (hb : w.heap.size ≤ g) : Kept w w2 := Below.grown h hg (Below.size h) (fun k e => by cases e; exact hb)
set_option maxRecDepth 100000 in
theorem SortedFunc_any {gf : Nat} {lb : Array Value} (eg : ∀ args w, (callFunc gf args).run Tryz.prog w = .ok (.enter gf args) w)
    {S Sp : List Xent → Prop} {N : Nat} (hN : N ≤ 1099511627776) (w w0 : World) (hb0 : Below w0.heap.size w0 w) (hseq : SeqStops Fence.wide 4 Tryz.prog gf lb xentV S Sp N w0) (hS : ∀ xs, S xs → xs.length ≤ 1099511627776) :
    Calls Tryz.prog 32 #[.func (.func gf) #[] lb, .func (.func 34) #[] #[]] w fun e W' =>
      ∃ v xs ss, e = .returned v ∧ S xs ∧ ss.Perm xs ∧ ss.Pairwise (fun a b => a.n ≤ b.n) ∧ Ents 65 W' w.heap.size v ss ∧ Kept w W' := by
  have HC := Lib.hid (Collect_any eg hN w w0 hb0 hseq)
  have HS := Lib.hid hS
  clear hseq hS hb0 eg
  go_enter Tryz.func32, Tryz.ntmps32
  go_wp2_with (go_at_call 50; refine HC.out.mono ?_; rintro e w1 ⟨v, xs, rfl, hS1, ho1, hk1⟩)
  have H1 := Lib.hid hS1
  have O1 := Lib.hid ho1
  have K1 := Lib.hid hk1
  have hlx := HS.out xs hS1
  obtain ⟨p, cap, rfl, hcap, hnil⟩ := ho1.shape
  clear hS1 ho1 hk1
  cases p with
  | none =>
    obtain rfl : xs = [] := hnil rfl
    go_wp2_with (go_at_call 51; refine (AnyF.slices_SortFunc_none { Tryz.sortE with } _ _ _ _).mono ?_; rintro e w2 ⟨rfl, rfl⟩)
    go_ret
    exact ⟨_, [], [], rfl, H1.out, List.Perm.nil, List.Pairwise.nil, O1.out, K1.out⟩
  | some ad =>
    have hgg : ∃ g, ad = ⟨g, 0, none⟩ ∧ w.heap.size ≤ g := by
      rcases O1.out.2 with ⟨he, _⟩ | ⟨g, c2, cur, he, hb, _⟩
      · cases he
      · injection he with e1
        exact ⟨g, Option.some.inj e1, hb⟩
    obtain ⟨g, rfl, hgb⟩ := hgg
    go_wp2_with (go_at_call 51; refine (SortFunc_any xs g cap w.heap.size w1 O1.out hlx).mono ?_; rintro e w2 ⟨rfl, ss, hp, hs, ho2, hg2⟩)
    go_ret
    exact ⟨_, xs, ss, rfl, H1.out, hp, hs, ho2, K1.out.sorted hg2 hgb⟩

end Go.Proofs.YtoablpaehhjchaaGreatDoor

namespace Go.Proofs.YtoablpaehhjchaaGreatDoor
open Go.RowKit Rx
set_option linter.unusedSimpArgs false
set_option linter.unusedVariables false

set_option maxRecDepth 100000 in
theorem GrowE_nil (n : Nat) (hn : n ≤ 1099511627776) (w : World) :
    Calls Tryz.prog 49 #[.slice none 0 0, .int .i64 n] w fun e w' => ∃ v, e = .returned v ∧ Ents 65 w' w.heap.size v [] ∧ Kept w w' := by
  by_cases h0 : n = 0
  · subst h0
    go_enter Tryz.func49, Tryz.ntmps49
    go_wp2_with fail
    go_ret
    exact ⟨_, rfl, World.ownsRow_nil _ _ _ _, Kept.refl w⟩
  have h1 : 0 < n := by omega
  obtain ⟨i0, hi, hz0, hz1, hz2⟩ := info_parts info_xent
  have hr := Lib.run_append_nil_zeros (P := Tryz.prog) w 22 3 22 65 i0 _ .i64 .i64 Tryz.underlying22 Tryz.underlying3 hi hz0 n h1 (by omega) (by omega) (by rw [hz2]; omega)
  have c1 := grownCap_ge w n 0 65
  have c2 := grownCap_le_maxLen w n 0 65 (by unfold maxLen; omega)
  have hsz : (Builtin.zeroCells (Value.agg #[.int .i64 0, .int .i64 0, .int .i64 0, .bool false]).cells n ++ Builtin.zeroCells (Value.agg #[.int .i64 0, .int .i64 0, .int .i64 0, .bool false]).cells (grownCap w n 0 65 - n)).size = grownCap w n 0 65 * 4 := by
    rw [Array.size_append, size_zeroCells, size_zeroCells]
    simp [Value.cells]; omega
  have HOWN := Lib.hid (World.ownsRow_made (base := w.heap.size) (e := 65) (size := 4) w.drew _ _ (Nat.le_refl _) c2 hsz)
  have HK := Lib.hid (show Kept w (w.drew.alloc (.cells (Builtin.zeroCells (Value.agg #[.int .i64 0, .int .i64 0, .int .i64 0, .bool false]).cells n ++ Builtin.zeroCells (Value.agg #[.int .i64 0, .int .i64 0, .int .i64 0, .bool false]).cells (grownCap w n 0 65 - n)) 65)) from ((Kept.refl w).drew).allocO _)
  obtain ⟨cap, hcap⟩ : ∃ cap, cap = grownCap w n 0 65 := ⟨_, rfl⟩
  obtain ⟨W2, hW2⟩ : ∃ W2, W2 = w.drew.alloc (.cells (Builtin.zeroCells (Value.agg #[.int .i64 0, .int .i64 0, .int .i64 0, .bool false]).cells n ++ Builtin.zeroCells (Value.agg #[.int .i64 0, .int .i64 0, .int .i64 0, .bool false]).cells (grownCap w n 0 65 - n)) 65) := ⟨_, rfl⟩
  rw [← hW2] at hr HOWN HK
  rw [← hcap] at hr HOWN c1 c2
  clear hW2 hcap hsz
  have i0' : ¬ (n : Int) < 0 := by omega
  have i1' : (0 : Int) < (n : Int) := by omega
  go_enter Tryz.func49, Tryz.ntmps49
  go_wp2_with (at_builtin; refine Lib.wpList_append_run _ rfl _ _ _ _ rfl _ _ rfl rfl _ _ hr ?_)
  go_ret
  exact ⟨_, rfl, HOWN.out, HK.out⟩

theorem entR_cells {W : World} {B0 k o : Nat} {es : List Xent} (hes : EntR W B0 (some ⟨k, o, none⟩) es) (j : Nat) (u : Value) (hj : (entC es)[j]? = some u) : W.cell? ((⟨k, o, none⟩ : Addr).add j) = some u := by
  have hj4 := (List.getElem?_eq_some_iff.1 hj).1
  rw [entC_len] at hj4
  rw [Addr.add_lit]
  obtain ⟨i, q, hq, rfl⟩ : ∃ i q, q < 4 ∧ j = i * 4 + q := ⟨j / 4, j % 4, Nat.mod_lt _ (by decide), by omega⟩
  have hi4 : i < es.length := by omega
  rw [entC_get es i hi4 q hq] at hj
  obtain ⟨k', of', hp, -, h0, h1, h2, h3⟩ := hes i hi4
  injection hp with hp
  injection hp with e1 e2 e3
  subst e1 e2
  match q, hq with
  | 0, _ => rw [show o + (i * 4 + 0) = o + i * 4 by omega, h0]; exact hj
  | 1, _ => rw [show o + (i * 4 + 1) = o + i * 4 + 1 by omega, h1]; exact hj
  | 2, _ => rw [show o + (i * 4 + 2) = o + i * 4 + 2 by omega, h2]; exact hj
  | 3, _ => rw [show o + (i * 4 + 3) = o + i * 4 + 3 by omega, h3]; exact hj

set_option maxRecDepth 100000 in

theorem wpList_app_slice {ops : Array Oper} {rest : List Oper} {o : Oper} {a : Act} {Q : Exit → Act → World → Prop} (hgd : o.guard = none) (s x : Operand)
    (ho : o.op = .call { callee := .builtin .append, args := #[s, x], argTypes := #[22, 22] })
    {W : World} {B : Nat} {v : Value} {l : List Xent} (hown : Ents 65 W B v l) (hs : a.eval s = v) (p : Option Addr) (es : List Xent) (c : Nat) (hes : EntR W W.heap.size p es) (hnil : p = none → c = 0)
    (hx : a.eval x = .slice p es.length c) (hB : B ≤ W.heap.size) (hlen : l.length + es.length ≤ 1099511627776)
    (h : ∀ v' w', Ents 65 w' B v' (l ++ es) → W.grownBy w' v.ownBlock → wpList Tryz.prog ops Q rest (a.put o.dst v') w') :
    wpList Tryz.prog ops Q (o :: rest) a W := by
  obtain ⟨i0, hi, hz0, hz1, hz2⟩ := info_parts info_xent
  cases p with
  | none =>
    have he : es = [] := by
      cases es with
      | nil => rfl
      | cons e r =>
        obtain ⟨k, o, hp, _⟩ := hes 0 (by simp)
        cases hp
    subst he
    have hc := hnil rfl
    subst hc
    refine wpList_append_own_none hgd s x 22 ho B 65 i0 4 Tryz.underlying22 hi v l.length (entC l) hs hown hx ?_
    exact h v W (by rw [List.append_nil]; exact hown) ⟨rfl, rfl, rfl, Nat.le_refl _, fun _ _ _ => rfl⟩
  | some ad =>
    have hcs : ∀ j u, (entC es)[j]? = some u → W.cell? (ad.add j) = some u := by
      cases es with
      | nil => intro j u hj; simp [entC] at hj
      | cons e r =>
        obtain ⟨k, of, hp, -⟩ := hes 0 (by simp)
        injection hp with hp
        subst hp
        exact entR_cells hes
    refine wpList_append_own _ hgd s x 22 ho B 65 i0 _ 4 32 Tryz.underlying22 hi hz0 hz1 hz2 rfl (by decide) v l.length (entC l) hs hown ad es.length c (entC es) hx (by rw [entC_len]; omega)
      hcs entC_one_cell (by unfold maxLen; omega) (by omega) hB ?_
    intro v' w' h1 h2 _
    refine h v' w' ?_ h2
    unfold Ents
    rw [List.length_append, entC_app]
    exact h1

def Sl (W : World) (p : Option Addr) (c : Nat) (es : List Xent) : Prop := EntR W W.heap.size p es ∧ (p = none → c = 0) ∧ es.length ≤ c
theorem Sl.see {w w' : World} {p : Option Addr} {c : Nat} {l : List Xent} (h : Sl w p c l) (k : Kept w w') : Sl w' p c l := ⟨h.1.see k, h.2⟩
theorem Ents.sl {T : TypeId} {w : World} {B : Nat} {v : Value} {l : List Xent} (h : Ents T w B v l) : ∃ p c, v = .slice p l.length c ∧ Sl w p c l := by
  obtain ⟨p, c, rfl, h1, h2⟩ := h.shape
  refine ⟨p, c, rfl, h.entR, ?_, h1⟩
  rintro rfl
  rcases h.2 with ⟨he, _⟩ | ⟨g, cap, cur, he, _⟩
  · injection he
  · cases he

def catL (a b : List Xent) : Nat → List Xent
  | 0 => []
  | 1 => a
  | _ => a ++ b

set_option maxRecDepth 100000 in
set_option maxHeartbeats 2000000 in
theorem ConcatE_any (a b : List Xent) (pa pb : Option Addr) (ca cb k : Nat) (w : World) (hk : Blk w k #[.slice pa a.length ca, .slice pb b.length cb] 22) (ha : Sl w pa ca a) (hb : Sl w pb cb b) (hs : a.length + b.length ≤ 1099511627776) :
    Calls Tryz.prog 31 #[.slice (some ⟨k, 0, none⟩) 2 2] w fun e w' => ∃ v, e = .returned v ∧ Ents 65 w' w.heap.size v (a ++ b) ∧ Kept w w' := by
  have HK := Lib.hid hk
  have HA := Lib.hid ha
  have HB := Lib.hid hb
  have GR0 := GrowE_nil (a.length + b.length) hs w
  rw [Int.natCast_add] at GR0
  have GR := Lib.hid GR0
  clear GR0
  clear hk ha hb
  go_enter Tryz.func31, Tryz.ntmps31
  go_wp2_with fail
  go_loopg [3, 11] 3 (fun x s i wr => ∃ j : Nat, x = 3 - j ∧ j ≤ 2 ∧ s = .int .i64 ((catL a b j).length : Nat) ∧ i = .int .i64 j ∧ w = wr)
  case atStart => exact ⟨0, rfl, by omega, rfl, rfl, rfl⟩
  case round =>
    obtain ⟨j, hx, hj, rfl, rfl, rfl⟩ := hrel
    obtain ⟨c0, c1⟩ := HK.out.cells2
    have hjc : j = 0 ∨ j = 1 ∨ j = 2 := by omega
    rcases hjc with rfl | rfl | rfl
    · have l0 : (catL a b 0).length = 0 := rfl
      have i1 : ¬ (a.length : Int) < 0 := by omega
      rw [l0]
      clear l0
      go_wp2_with fail
      go_roundg 2
      case measure => omega
      case rel => exact ⟨1, rfl, by omega, by simp [catL], rfl, rfl⟩
    · have l0 : (catL a b 1).length = a.length := rfl
      have i1 : ¬ (a.length : Int) + (b.length : Int) < 0 := by omega
      have i2 : wrap64 ((a.length : Int) + (b.length : Int)) = (a.length : Int) + (b.length : Int) := by unfold wrap64; omega
      rw [l0]
      clear l0
      go_wp2_with fail
      go_roundg 1
      case measure => omega
      case rel => exact ⟨2, rfl, by omega, by simp [catL], rfl, rfl⟩
    · have l0 : (catL a b 2).length = a.length + b.length := by simp [catL]
      rw [l0]
      clear l0
      go_wp2_with fail
      (with_reducible refine GR.out.mono ?_)
      rintro e w1 ⟨v1, rfl, ho1, hk1⟩
      have HO1 := Lib.hid ho1
      have HK1 := Lib.hid hk1
      clear ho1 hk1 c0 c1
      go_wp2_with fail
      go_loopg [6, 27] 3 (fun x s i wr => ∃ (q : Nat) (v : Value), x = 3 - q ∧ q ≤ 2 ∧ v = s ∧ i = .int .i64 q ∧ Ents 65 wr w.heap.size v (catL a b q) ∧ Kept w wr)
      case atStart => exact ⟨0, v1, rfl, by omega, rfl, rfl, HO1.out, HK1.out⟩
      case round =>
        obtain ⟨q, v, hx2, hq, rfl, rfl, ho, hkk⟩ := hrel
        have HO := Lib.hid ho
        have HK2 := Lib.hid hkk
        have hwl := Below.size hkk
        obtain ⟨c0, c1⟩ := (HK.out.kept hkk).cells2
        have HA2 := Lib.hid (HA.out.see hkk)
        have HB2 := Lib.hid (HB.out.see hkk)
        clear ho hkk
        have hqc : q = 0 ∨ q = 1 ∨ q = 2 := by omega
        rcases hqc with rfl | rfl | rfl
        · go_wp2_with (at_builtin; refine wpList_app_slice (by rfl) _ _ (by rfl) HO.out (by rfl) pa a ca HA2.out.1 HA2.out.2.1 (by rfl) hwl (by simp [catL]; omega) ?_; intro v6 w6 ho6 hg6)
          have O6 := Lib.hid (show Ents 65 w6 w.heap.size v6 (catL a b 1) from ho6)
          have K6 := Lib.hid (show Kept w w6 from Below.grown HK2.out hg6 hwl (fun y hy => (HO.out.lt y hy).1))
          clear ho6 hg6
          go_wp2_with fail
          go_roundg 2
          case measure => omega
          case rel => exact ⟨1, v6, rfl, by omega, rfl, rfl, O6.out, K6.out⟩
        · go_wp2_with (at_builtin; refine wpList_app_slice (by rfl) _ _ (by rfl) HO.out (by rfl) pb b cb HB2.out.1 HB2.out.2.1 (by rfl) hwl (by simp [catL]; omega) ?_; intro v6 w6 ho6 hg6)
          have O6 := Lib.hid (show Ents 65 w6 w.heap.size v6 (catL a b 2) from ho6)
          have K6 := Lib.hid (show Kept w w6 from Below.grown HK2.out hg6 hwl (fun y hy => (HO.out.lt y hy).1))
          clear ho6 hg6
          go_wp2_with fail
          go_roundg 1
          case measure => omega
          case rel => exact ⟨2, v6, rfl, by omega, rfl, rfl, O6.out, K6.out⟩
        · go_wp2_with fail
          go_ret
          exact ⟨v, rfl, HO.out, HK2.out⟩

end Go.Proofs.YtoablpaehhjchaaGreatDoor

namespace Go.Proofs.YtoablpaehhjchaaGreatDoor
open Go.RowKit Go.Maps Go.Shelf Rx
set_option linter.unusedSimpArgs false
set_option linter.unusedVariables false

theorem isM_of {all xs ss : List Xent} (h : AllOf (first all) xs) (hp : ss.Perm xs) (hs : ss.Pairwise (fun a b => a.n ≤ b.n)) : IsM all ss := by
  obtain ⟨ks, hnd, hk, hm⟩ := h
  have hnum : ∀ (xs : List Xent) (ks : List Int), xs.map some = ks.map (first all) → xs.map (·.n) = ks := by
    intro xs
    induction xs with
    | nil => intro ks h; cases ks with
      | nil => rfl
      | cons k ks => simp at h
    | cons x xs ih => intro ks h; cases ks with
      | nil => simp at h
      | cons k ks =>
        simp only [List.map_cons, List.cons.injEq] at h
        rw [List.map_cons, ih ks h.2, first_n h.1.symm]
  have hn := hnum xs ks hm
  have hmem : ∀ e, e ∈ xs ↔ first all e.n = some e := fun e => by
    constructor
    · intro he
      have h1 : some e ∈ xs.map some := List.mem_map.2 ⟨e, he, rfl⟩
      rw [hm] at h1
      obtain ⟨k, -, h2⟩ := List.mem_map.1 h1
      rw [first_n h2]; exact h2
    · intro he
      have h1 : e.n ∈ ks := (hk e.n).2 (by rw [he]; rfl)
      have h2 : first all e.n ∈ ks.map (first all) := List.mem_map.2 ⟨e.n, h1, rfl⟩
      rw [← hm, he] at h2
      obtain ⟨x, hx, h3⟩ := List.mem_map.1 h2
      rw [← Option.some.inj h3]; exact hx
  refine ⟨?_, fun e => hp.mem_iff.trans (hmem e)⟩
  have hnd2 : (ss.map (·.n)).Nodup := ((hp.map (·.n)).nodup_iff).2 (by rw [hn]; exact hnd)
  have h3 : ss.Pairwise (fun a b => a.n ≠ b.n) := List.pairwise_map.1 hnd2
  exact (hs.and h3).imp (fun ⟨h1, h2⟩ => by omega)
theorem allOf_len {all xs : List Xent} (h : AllOf (first all) xs) : xs.length ≤ all.length := by
  have hi := isM_of h (List.mergeSort_perm xs (fun a b => decide (a.n ≤ b.n))) (by
    have := List.pairwise_mergeSort (le := fun a b : Xent => decide (a.n ≤ b.n)) (fun a b c h1 h2 => by simp at *; omega) (fun a b => by simp; omega) xs
    exact this.imp (fun h => by simpa using h))
  have := isM_len hi
  rw [(List.mergeSort_perm xs _).length_eq] at this
  exact this

def Wf (e : Xent) : Prop := -9223372036854775808 ≤ e.n ∧ e.n ≤ 9223372036854775807

set_option maxRecDepth 100000 in
set_option maxHeartbeats 4000000 in
theorem Merge_any (a b : List Xent) (pa pb : Option Addr) (ca cb : Nat) (w : World) (ha : Sl w pa ca a) (hb : Sl w pb cb b) (hs : a.length + b.length ≤ 1099511627776) (hwf : ∀ e ∈ a ++ b, Wf e) :
    Calls Tryz.prog 11 #[.slice pa a.length ca, .slice pb b.length cb] w fun e w' => ∃ v m, e = .returned v ∧ IsM (a ++ b) m ∧ Ents 65 w' w.heap.size v m ∧ Kept w w' := by
  have HWF := Lib.hid hwf
  have k1 : Kept w (w.alloc (.map #[] 0)) := (Kept.refl w).allocO _
  have k2 : Kept w ((w.alloc (.map #[] 0)).alloc (.cells #[.slice pa a.length ca, .slice pb b.length cb] 22)) := k1.allocO _
  have M2 := Lib.hid (show MIdx ((w.alloc (.map #[] 0)).alloc (.cells #[.slice pa a.length ca, .slice pb b.length cb] 22)) w.heap.size 0 (fun _ => none) from (MIdx.made w).kept (World.grownBy_alloc _ _ none) (by simp))
  have CC := Lib.hid (ConcatE_any a b pa pb ca cb (w.heap.size + 1) _ (Blk.fresh' (w := w.alloc (.map #[] 0)) #[.slice pa a.length ca, .slice pb b.length cb] 22 (by simp)) (ha.see k2) (hb.see k2) hs)
  have K2 := Lib.hid k2
  have hl : (a ++ b).length ≤ 1099511627776 := by rw [List.length_append]; exact hs
  obtain ⟨all, hall⟩ : ∃ all, all = a ++ b := ⟨_, rfl⟩
  rw [← hall] at CC HWF hl ⊢
  clear hall hwf ha hb k1 k2 hs
  have hmm : ∀ (t : TypeId) (w : World), (Instr.makeMap t none).run Tryz.prog w = .ok (.map (some w.heap.size)) (w.alloc (.map #[] 0)) := fun _ _ => rfl
  go_enter Tryz.func11, Tryz.ntmps11
  go_wp2_with (go_at_call 31; refine CC.out.mono ?_; rintro e w1 ⟨v, rfl, ho1, hk1⟩; obtain ⟨p, c, rfl, hsl⟩ := ho1.sl)
  have O1 := Lib.hid ho1
  have KW := Lib.hid (K2.out.trans hk1)
  have MW := Lib.hid (M2.out.keptK hk1)
  obtain ⟨B1, hB1⟩ : ∃ B1, B1 = ((w.alloc (.map #[] 0)).alloc (.cells #[.slice pa a.length ca, .slice pb b.length cb] 22)).heap.size := ⟨_, rfl⟩
  rw [← hB1] at O1
  have hbB : w.heap.size < B1 := by rw [hB1]; simp; omega
  clear ho1 hk1 hsl CC M2 K2 hB1
  go_loopg [16] (all.length + 1) (fun x i wr => ∃ j : Nat, x = all.length + 1 - j ∧ j ≤ all.length ∧ i = .int .i64 j ∧ MIdx wr w.heap.size j (first (all.take j)) ∧ Ents 65 wr B1 (.slice p all.length c) all ∧ Kept w wr)
  case atStart => exact ⟨0, rfl, by omega, rfl, MW.out, O1.out, KW.out⟩
  case round =>
    obtain ⟨j, hx, hj, rfl, hm, ho, hk⟩ := hrel
    have HM := Lib.hid hm
    have HO := Lib.hid ho
    have HK := Lib.hid hk
    have hwl := Below.size hk
    have hne : (Value.slice p all.length c).ownBlock = none ∨ (Value.slice p all.length c).ownBlock ≠ some w.heap.size := by
      cases hv : (Value.slice p all.length c).ownBlock with
      | none => exact .inl rfl
      | some g => exact .inr (fun e => by have := (ho.lt g hv).1; injection e with e; omega)
    have HN := Lib.hid hne
    clear hm ho hk hne
    by_cases hlt : j < all.length
    · have j1 : (j : Int) < (all.length : Int) := by omega
      obtain ⟨kb, o, hp, hkb, c0, c1, c2, c3⟩ := HO.out.entR j hlt
      have htk : all.take (j + 1) = all.take j ++ [all[j]] := List.take_succ_eq_append_getElem hlt
      have hwe := HWF.out all[j] (List.getElem_mem hlt)
      obtain ⟨t, ht⟩ : ∃ t, t = all[j] := ⟨_, rfl⟩
      rw [← ht] at c0 c1 c2 c3 htk hwe
      have HTK := Lib.hid htk
      have HWE := Lib.hid hwe
      clear ht htk hwe
      have HP := Lib.hid hp
      have HO2 := Lib.hid HO.out
      have HM1 := Lib.hid (HM.out.kept (World.grownBy_alloc wr (.cells #[.int .i64 t.n, .int .i64 t.off, .int .i64 t.gen, .bool t.used] 65) none) (by simp))
      subst hp
      obtain ⟨J, hJ⟩ : ∃ J, J = first (all.take j) t.n := ⟨_, rfl⟩
      cases J with
      | some f =>
        have hJ2 : (first (all.take j) t.n).isSome = true := by rw [← hJ]; rfl
        go_wp2_with (at_lookup; refine wpList_mx_ok (by rfl) _ _ (by rfl) HM1.out (by rfl) t.n (by rfl) HWE.out ?_; rw [hJ2]; intro e0; unfold xentV)
        go_roundg (all.length + 1 - (j + 1))
        case measure => omega
        case rel =>
          refine ⟨j + 1, rfl, by omega, by go_num, ?_, ?_, ?_⟩
          · have h1 : first (all.take (j + 1)) = first (all.take j) := by
              funext n
              rw [HTK.out, first_snoc]
              cases h2 : first (all.take j) n with
              | some g => rfl
              | none =>
                by_cases h3 : t.n = n
                · rw [h3, h2] at hJ; cases hJ
                · rw [if_neg h3]; rfl
            rw [h1]
            exact (HM1.out.kept (World.grownBy_alloc _ _ none) (by simp)).mono (by omega)
          · exact (HO.out.kept (((Kept.refl wr).allocO _).allocO _))
          · exact (HK.out.allocO _).allocO _
      | none =>
        have hJ2 : (first (all.take j) t.n).isSome = false := by rw [← hJ]; rfl
        go_wp2_with (first | (at_lookup; refine wpList_mx_ok (by rfl) _ _ (by rfl) HM1.out (by rfl) t.n (by rfl) HWE.out ?_; rw [hJ2]; intro e0; unfold xentV) | (at_mapUpdate; refine wpList_mx_put (by rfl) _ _ _ (by rfl) (HM1.out.kept (World.grownBy_alloc _ _ none) (by simp)) (by unfold maxLen; omega) (by rfl) t.n (by rfl) HWE.out t (by rfl) ?_; intro w6 hm6 hg6))
        have K6 := Lib.hid (show Kept w w6 from Below.grown ((HK.out.allocO _).allocO _) hg6 (by simp; omega) (fun k e => by cases e; exact Nat.le_refl _))
        have O6 := Lib.hid ((HO.out.kept (((Kept.refl wr).allocO _).allocO _)).gb hg6 HN.out)
        have M6 := Lib.hid hm6
        clear hm6 hg6
        go_wp2_with fail
        go_roundg (all.length + 1 - (j + 1))
        case measure => omega
        case rel =>
          refine ⟨j + 1, rfl, by omega, by go_num, ?_, O6.out, K6.out⟩
          have h1 : first (all.take (j + 1)) = fun k => if k = t.n then some t else first (all.take j) k := by
            funext n
            rw [HTK.out, first_snoc]
            by_cases h3 : n = t.n
            · rw [if_pos h3, h3, ← hJ, if_pos rfl]; rfl
            · rw [if_neg h3, if_neg (fun e => h3 e.symm)]
              cases first (all.take j) n <;> rfl
          rw [h1]
          exact M6.out
    · obtain rfl : j = all.length := by omega
      have M0 := HM.out
      rw [List.take_length] at M0
      have MA := Lib.hid (M0.kept (World.grownBy_alloc wr (.cells #[.map (some w.heap.size)] 75) none) (by simp))
      have BM := Lib.hid (Boxed.new wr 75 (.map (some w.heap.size)))
      have KA := Lib.hid (HK.out.allocO (.cells #[.map (some w.heap.size)] 75 (0, 0)))
      have VI := Lib.hid (callsIn_wide.1 (Values_in Fence.wide 1 trivial rfl (some w.heap.size) wr))
      have SF := Lib.hid (SortedFunc_any (gf := 52) (enters_of Tryz.func52 (by kernel_rfl) rfl) hl _ _ (Below.refl _ _) (values_stops Fence.wide 4 trivial rfl (by decide) wr.heap.size w.heap.size all.length (first all) _ (by simp) BM.out.cell MA.out) (fun xs hx => Nat.le_trans (allOf_len hx) hl))
      clear M0
      go_wp2_with (first | (go_at_call 33; refine VI.out.mono ?_; rintro e w5 ⟨rfl, rfl⟩) | (go_at_call 32; refine SF.out.mono ?_; rintro e w6 ⟨v6, xs, ss, rfl, hx6, hp6, hs6, ho6, hk6⟩))
      go_ret
      exact ⟨v6, ss, rfl, isM_of hx6 hp6 hs6, ho6.base (Below.size KA.out), KA.out.trans hk6⟩

end Go.Proofs.YtoablpaehhjchaaGreatDoor
