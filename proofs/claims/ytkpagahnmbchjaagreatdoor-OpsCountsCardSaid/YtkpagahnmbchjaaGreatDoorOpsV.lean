/-
  Operators that a call copies into an array of its own; several slices of them one behind the other.
  'copy' of elements of several cells into a row of its own. Nothing of the program is named here.
  An operator without objects, so many times: slices.Repeat, ops.times.
  Whether operators that open and close fit: ops.step, ops.Balanced.
  Operators between q and Q: ops.Wrap.
-/
import Derived.Test.YtkpagahnmbchjaaGreatDoorOpsP
import Derived.Lib.AppendZeros
import Derived.Laws.AppendOwnNone
import Derived.OwnWalk
import Derived.Deep.LoopGhost
import Derived.Deep.QuietTactic
import Derived.Deep.RegionLaw
import Derived.Deep.RegionHeld3
import Derived.Test.YtkpagahnmbchjaaGreatDoorXBase
import Derived.Laws.CopyRow
import Derived.Test.YtkpagahnmbchjaaGreatDoorShelf
import Derived.Deep.Cut
import Derived.Test.YtkpagahnmbchjaaGreatDoorLexM
import Derived.Test.YtkpagahnmbchjaaGreatDoorLexW1
namespace Go.Proofs.YtkpagahnmbchjaaGreatDoor
open Go.RowKit Cx
set_option linter.unusedSimpArgs false
set_option linter.unusedVariables false

def flatP (rs : ORow) : List Value := rs.flatMap cells2
theorem flatP_len (rs : ORow) : (flatP rs).length = rs.length * 2 := flat_len _ 2 (fun _ => rfl) rs
theorem flatP_app (a b : ORow) : flatP (a ++ b) = flatP a ++ flatP b := by unfold flatP; rw [List.flatMap_append]
theorem flatP_snoc (rs : ORow) (r : Ob × Hd) : flatP (rs ++ [r]) = flatP rs ++ cells2 r := by rw [flatP_app]; simp [flatP]
theorem flatP_get (rs : ORow) (i q : Nat) (hi : i < rs.length) (hq : q < 2) : (flatP rs)[i * 2 + q]? = (cells2 rs[i])[q]? := flat_get cells2 2 (fun _ => rfl) rs i q hi hq
theorem flatP_one {rs : ORow} : ∀ u ∈ flatP rs, u.oneCell' = true := fun u hu => by
  unfold flatP at hu
  obtain ⟨r, _, hr⟩ := List.mem_flatMap.1 hu
  exact oneCell2 r u hr

/-- An own row of a type T. -/
def OwnQ (T : TypeId) (w : World) (N : Nat) (v : Value) (rs : ORow) : Prop := w.ownsRow N T 2 v rs.length (flatP rs)
section
variable {T : TypeId} {w w' : World} {N B' : Nat} {v : Value} {rs : ORow}
theorem OwnQ.nil (T : TypeId) (N : Nat) (w : World) : OwnQ T w N (.slice none 0 0) [] := World.ownsRow_nil _ _ _ _
theorem OwnQ.lt (h : OwnQ T w N v rs) : ∀ k, v.ownBlock = some k → N ≤ k ∧ k < w.heap.size := World.ownsRow.lt h
theorem OwnQ.gb (h : OwnQ T w N v rs) {r : Option Nat} (g : w.grownBy w' r) (hne : v.ownBlock = none ∨ v.ownBlock ≠ r) : OwnQ T w' N v rs := World.ownsRow.kept h g hne
theorem OwnQ.kept (h : OwnQ T w N v rs) (k : Kept w w') : OwnQ T w' N v rs :=
  h.gb (gb_kept k none) (by cases hv : v.ownBlock with
    | none => exact .inl rfl
    | some g => exact .inr (by simp))
theorem OwnQ.shape (h : OwnQ T w N v rs) : ∃ p cap, v = .slice p rs.length cap ∧ (p = none → cap = 0) ∧ rs.length ≤ cap := by
  rcases h.2 with ⟨rfl, h0⟩ | ⟨g, cap, cur, rfl, _, _, hc, _⟩
  · exact ⟨none, 0, by rw [h0], fun _ => rfl, by omega⟩
  · exact ⟨_, _, rfl, (fun e => by cases e), hc⟩
theorem OwnQ.base (h : OwnQ T w N v rs) (hB : B' ≤ N) : OwnQ T w B' v rs :=
  ⟨h.1, by
    rcases h.2 with h1 | ⟨g, cap, cur, h1, h2, h3⟩
    · exact .inl h1
    · exact .inr ⟨g, cap, cur, h1, by omega, h3⟩⟩
theorem OwnQ.opR {P : Nat → Prop} {p : Option Addr} {cap : Nat} (h : OwnQ T w N (.slice p rs.length cap) rs) (hP : ∀ b, N ≤ b → P b) (hl : ∀ r ∈ rs, Lies (Cel P w) r.1 r.2) : OpR P w p rs := by
  refine ⟨fun i hi => ?_, hl⟩
  obtain ⟨g, cap', hv, hb⟩ : ∃ g cap', (Value.slice p rs.length cap) = .slice (some ⟨g, 0, none⟩) rs.length cap' ∧ N ≤ g := by
    rcases h.2 with ⟨_, h0⟩ | ⟨g, cap', cur, hv, hb, _⟩
    · omega
    · exact ⟨g, cap', hv, hb⟩
  obtain ⟨rfl, rfl⟩ : p = some ⟨g, 0, none⟩ ∧ cap = cap' := by injection hv with e1 _ e3; exact ⟨e1, e3⟩
  have key : ∀ q, q < 2 → ∀ u, (cells2 rs[i])[q]? = some u → w.cell? ⟨g, 0 + (i * 2 + q), none⟩ = some u := fun q hq u hu => by
    have := World.ownsRow.cells h (g := g) rfl (i * 2 + q) u (by rw [flatP_get rs i q hi hq]; exact hu)
    rwa [Addr.add_lit] at this
  have h0 := key 0 (by decide) _ rfl
  have h1 := key 1 (by decide) _ rfl
  exact ⟨g, 0, rfl, hP g hb, World.block_lt_of_cell? w _ h0, h0, by rw [show 0 + i * 2 + 1 = 0 + (i * 2 + 1) by omega]; exact h1⟩
end
theorem opR_cells {P : Nat → Prop} {w : World} {k o : Nat} {rs : ORow} (h : OpR P w (some ⟨k, o, none⟩) rs) (j : Nat) (u : Value) (hj : (flatP rs)[j]? = some u) : w.cell? ((⟨k, o, none⟩ : Addr).add j) = some u := by
  have hj2 := (List.getElem?_eq_some_iff.1 hj).1
  rw [flatP_len] at hj2
  rw [Addr.add_lit]
  obtain ⟨i, q, hq, rfl⟩ : ∃ i q, q < 2 ∧ j = i * 2 + q := ⟨j / 2, j % 2, Nat.mod_lt _ (by decide), by omega⟩
  have hi : i < rs.length := by omega
  rw [flatP_get rs i q hi hq] at hj
  obtain ⟨b, off, hp, -, -, c0, c1⟩ := h.at' i hi
  injection hp with hp
  injection hp with e1 e2 e3
  subst e1 e2
  match q, hq with
  | 0, _ => rw [show o + (i * 2 + 0) = o + i * 2 by omega, c0]; exact hj
  | 1, _ => rw [show o + (i * 2 + 1) = o + i * 2 + 1 by omega, c1]; exact hj

/-- 'append(l, x)' to such a row, at a step of a region that draws its order. -/
theorem step_app_P (T TS : TypeId) (hu : Tryz.prog.underlying TS = some (.slice T)) (hinfo : (Tryz.prog.info? T).map (fun i => (i.zero, i.size, i.bytes)) = some (some (.agg #[.string ⟨#[]⟩, .slice none 0 0]), 2, 40))
    {ops : Array Oper} {o : Oper} {a : Act} {K : Act → World → Prop} {Q : Exit → Act → World → Prop} {E : Prop} (hgd : o.guard = none) (s x : Operand)
    (ho : o.op = .call { callee := .builtin .append, args := #[s, x], argTypes := #[TS, TS] })
    {W : World} (N : Nat) (v : Value) (rs : ORow) (hs : a.eval s = v) (hown : OwnQ T W N v rs) (r : Ob × Hd) (g : Nat) (hb : Blk W g (cells2 r).toArray T)
    (hx : a.eval x = .slice (some ⟨g, 0, none⟩) 1 1) (hB : N ≤ W.heap.size) (hlen : rs.length ≤ 1099511627776)
    (h : ∀ g' cap w', OwnQ T w' N (.slice (some ⟨g', 0, none⟩) (rs.length + 1) cap) (rs ++ [r]) → W.grownBy w' v.ownBlock → g' < w'.heap.size → K (a.put o.dst (.slice (some ⟨g', 0, none⟩) (rs.length + 1) cap)) w') :
    if Region.wanted o (yielded ops a.tmps) = true then Oper.wp Tryz.prog o a W K Q else E := by
  obtain ⟨i0, hi, hz0, hz1, hz2⟩ := info_parts hinfo
  refine step_append_lies _ hgd s x TS ho N T i0 _ 2 40 hu hi hz0 hz1 hz2 rfl (by decide) v rs.length (flatP rs) hs hown ⟨g, 0, none⟩ 1 1 (cells2 r) hx rfl
    ?_ (oneCell2 _) (by decide) (by unfold maxLen; omega) (by omega) hB _ rfl ?_
  · intro j u hj
    rw [Addr.add_lit, Nat.zero_add, hb.cell j]
    simpa using hj
  · intro g' cap w' h1 h2 _ h4
    refine h g' cap w' ?_ h2 h4
    unfold OwnQ
    rw [List.length_append, flatP_snoc]
    exact h1

set_option maxRecDepth 100000 in
/-- A slice of operators, if it has any, is appended to an own row. -/
theorem wpList_app_sliceP {ops : Array Oper} {rest : List Oper} {o : Oper} {a : Act} {Q : Exit → Act → World → Prop} (hgd : o.guard = none) (s x : Operand)
    (ho : o.op = .call { callee := .builtin .append, args := #[s, x], argTypes := #[36, 36] })
    {W : World} {B : Nat} {v : Value} {l : ORow} (hown : OwnQ 45 W B v l) (hs : a.eval s = v) (P : Nat → Prop) (p : Option Addr) (es : ORow) (c : Nat) (hes : OpR P W p es) (hnil : p = none → c = 0)
    (hp0 : ∀ ad, p = some ad → ad = ⟨ad.block, ad.off, none⟩) (hx : a.eval x = .slice p es.length c) (hB : B ≤ W.heap.size) (hlen : l.length + es.length ≤ 1099511627776)
    (h : ∀ v' w', OwnQ 45 w' B v' (l ++ es) → W.grownBy w' v.ownBlock → wpList Tryz.prog ops Q rest (a.put o.dst v') w') :
    wpList Tryz.prog ops Q (o :: rest) a W := by
  obtain ⟨i0, hi, hz0, hz1, hz2⟩ := info_parts info_op
  cases p with
  | none =>
    have he : es = [] := by
      cases es with
      | nil => rfl
      | cons e r =>
        obtain ⟨k, o, hp, _⟩ := hes.at' 0 (by simp)
        cases hp
    subst he
    have hc := hnil rfl
    subst hc
    refine wpList_append_own_none hgd s x 36 ho B 45 i0 2 Tryz.underlying36 hi v l.length (flatP l) hs hown hx ?_
    exact h v W (by rw [List.append_nil]; exact hown) ⟨rfl, rfl, rfl, Nat.le_refl _, fun _ _ _ => rfl⟩
  | some ad =>
    have hcs : ∀ j u, (flatP es)[j]? = some u → W.cell? (ad.add j) = some u := by
      rw [hp0 ad rfl] at hes ⊢
      exact opR_cells hes
    refine wpList_append_own _ hgd s x 36 ho B 45 i0 _ 2 40 Tryz.underlying36 hi hz0 hz1 hz2 rfl (by decide) v l.length (flatP l) hs hown ad es.length c (flatP es) hx (by rw [flatP_len])
      hcs flatP_one (by unfold maxLen; omega) (by omega) hB ?_
    intro v' w' h1 h2 _
    refine h v' w' ?_ h2
    unfold OwnQ
    rw [List.length_append, flatP_app]
    exact h1

set_option maxRecDepth 100000 in
theorem GrowP_nil (n : Nat) (hn : n ≤ 1099511627776) (w : World) :
    Calls Tryz.prog 35 #[.slice none 0 0, .int .i64 n] w fun e w' => ∃ v, e = .returned v ∧ OwnQ 45 w' w.heap.size v [] ∧ Kept w w' := by
  by_cases h0 : n = 0
  · subst h0
    go_enter Tryz.func35, Tryz.ntmps35
    go_wp2_with fail
    go_ret
    exact ⟨_, rfl, World.ownsRow_nil _ _ _ _, Kept.refl w⟩
  have h1 : 0 < n := by omega
  obtain ⟨i0, hi, hz0, hz1, hz2⟩ := info_parts info_op
  have hr := Lib.run_append_nil_zeros (P := Tryz.prog) w 36 3 36 45 i0 _ .i64 .i64 Tryz.underlying36 Tryz.underlying3 hi hz0 n h1 (by omega) (by omega) (by rw [hz2]; omega)
  have c1 := grownCap_ge w n 0 45
  have c2 := grownCap_le_maxLen w n 0 45 (by unfold maxLen; omega)
  have hsz : (Builtin.zeroCells (Value.agg #[.string ⟨#[]⟩, .slice none 0 0]).cells n ++ Builtin.zeroCells (Value.agg #[.string ⟨#[]⟩, .slice none 0 0]).cells (grownCap w n 0 45 - n)).size = grownCap w n 0 45 * 2 := by
    rw [Array.size_append, size_zeroCells, size_zeroCells]
    simp [Value.cells]; omega
  have HOWN := Lib.hid (World.ownsRow_made (base := w.heap.size) (e := 45) (size := 2) w.drew _ _ (Nat.le_refl _) c2 hsz)
  have HK := Lib.hid (show Kept w (w.drew.alloc (.cells (Builtin.zeroCells (Value.agg #[.string ⟨#[]⟩, .slice none 0 0]).cells n ++ Builtin.zeroCells (Value.agg #[.string ⟨#[]⟩, .slice none 0 0]).cells (grownCap w n 0 45 - n)) 45)) from ((Kept.refl w).drew).allocO _)
  obtain ⟨cap, hcap⟩ : ∃ cap, cap = grownCap w n 0 45 := ⟨_, rfl⟩
  obtain ⟨W2, hW2⟩ : ∃ W2, W2 = w.drew.alloc (.cells (Builtin.zeroCells (Value.agg #[.string ⟨#[]⟩, .slice none 0 0]).cells n ++ Builtin.zeroCells (Value.agg #[.string ⟨#[]⟩, .slice none 0 0]).cells (grownCap w n 0 45 - n)) 45) := ⟨_, rfl⟩
  rw [← hW2] at hr HOWN HK
  rw [← hcap] at hr HOWN c1 c2
  clear hW2 hcap hsz
  have i0' : ¬ (n : Int) < 0 := by omega
  have i1' : (0 : Int) < (n : Int) := by omega
  go_enter Tryz.func35, Tryz.ntmps35
  go_wp2_with (at_builtin; refine Lib.wpList_append_run _ rfl _ _ _ _ rfl _ _ rfl rfl _ _ hr ?_)
  go_ret
  exact ⟨_, rfl, HOWN.out, HK.out⟩

/-- The first slices' operators, one behind the other. -/
def catP (R : Nat → ORow) : Nat → ORow
  | 0 => []
  | j + 1 => catP R j ++ R j
theorem catP_len_mono (R : Nat → ORow) (j : Nat) : ∀ d, (catP R j).length ≤ (catP R (j + d)).length
  | 0 => Nat.le_refl _
  | d + 1 => Nat.le_trans (catP_len_mono R j d) (by rw [show j + (d + 1) = j + d + 1 by omega, catP, List.length_append]; omega)
theorem catP_len_le (R : Nat → ORow) {j m : Nat} (h : j ≤ m) : (catP R j).length ≤ (catP R m).length := by
  have := catP_len_mono R j (m - j); rwa [show j + (m - j) = m by omega] at this

set_option maxRecDepth 100000 in
set_option maxHeartbeats 2000000 in
theorem ConcatP_any (m : Nat) (P : Nat → Prop) (G : Nat → Option Addr) (C : Nat → Nat) (R : Nat → ORow) (k : Nat) (w : World) (hm : m ≤ 1000)
    (hk : k < w.heap.size) (hc : ∀ i, i < m → w.cell? ⟨k, i, none⟩ = some (.slice (G i) (R i).length (C i))) (hs : (catP R m).length ≤ 1048576)
    (hA : ∀ i, i < m → OpR P w (G i) (R i) ∧ (G i = none → C i = 0) ∧ ∀ ad, G i = some ad → ad = ⟨ad.block, ad.off, none⟩) :
    Calls Tryz.prog 24 #[.slice (some ⟨k, 0, none⟩) m m] w fun e w' => ∃ v, e = .returned v ∧ OwnQ 45 w' w.heap.size v (catP R m) ∧ Kept w w' := by
  have HC := Lib.hid hc
  have HA := Lib.hid hA
  have GR := Lib.hid (GrowP_nil (catP R m).length (by omega) w)
  clear hc hA
  go_enter Tryz.func24, Tryz.ntmps24
  go_wp2_with fail
  go_loopg [3, 11] (m + 1) (fun x s i wr => ∃ j : Nat, x = m + 1 - j ∧ j ≤ m ∧ s = .int .i64 ((catP R j).length : Nat) ∧ i = .int .i64 j ∧ w = wr)
  case atStart => exact ⟨0, rfl, Nat.zero_le _, rfl, rfl, rfl⟩
  case round =>
    obtain ⟨j, hx, hj, rfl, rfl, rfl⟩ := hrel
    by_cases hlt : j < m
    · have c := HC.out j hlt
      have hle : (catP R (j + 1)).length ≤ (catP R m).length := catP_len_le R hlt
      have hst : (catP R (j + 1)).length = (catP R j).length + (R j).length := by rw [catP, List.length_append]
      obtain ⟨s, hs2⟩ : ∃ s, s = (catP R j).length := ⟨_, rfl⟩
      obtain ⟨nj, hnj⟩ : ∃ nj, nj = (R j).length := ⟨_, rfl⟩
      have HS := Lib.hid hst
      rw [← hs2] at hst HS ⊢
      rw [← hnj] at c hst HS
      clear hs2 hnj
      have i1 : ¬ (s : Int) + (nj : Int) < 0 := by omega
      have i2 : wrap64 ((s : Int) + (nj : Int)) = (s : Int) + (nj : Int) := by unfold wrap64; omega
      go_wp2_with fail
      go_roundg (m + 1 - (j + 1))
      case measure => omega
      case rel => exact ⟨j + 1, rfl, by omega, by rw [HS.out]; go_num, by go_num, rfl⟩
    · obtain rfl : j = m := by omega
      go_wp2_with fail
      (with_reducible refine GR.out.mono ?_)
      rintro e w1 ⟨v1, rfl, ho1, hk1⟩
      have HO1 := Lib.hid ho1
      have HK1 := Lib.hid hk1
      clear ho1 hk1
      go_wp2_with fail
      go_loopg [6, 27] (j + 1) (fun x s i wr => ∃ (q : Nat) (v : Value), x = j + 1 - q ∧ q ≤ j ∧ v = s ∧ i = .int .i64 q ∧ OwnQ 45 wr w.heap.size v (catP R q) ∧ Kept w wr)
      case atStart => exact ⟨0, v1, rfl, Nat.zero_le _, rfl, rfl, HO1.out, HK1.out⟩
      case round =>
        obtain ⟨q, v, hx2, hq, rfl, rfl, ho, hkk⟩ := hrel
        have HO := Lib.hid ho
        have HK := Lib.hid hkk
        have hwl := Below.size hkk
        clear ho hkk
        by_cases hlt2 : q < j
        · have c := HK.out.cells.1 k q hk
          rw [HC.out q hlt2] at c
          have hle : (catP R (q + 1)).length ≤ (catP R j).length := catP_len_le R hlt2
          have hst : (catP R (q + 1)).length = (catP R q).length + (R q).length := by rw [catP, List.length_append]
          have HAQ := Lib.hid (HA.out q hlt2)
          go_wp2_with (at_builtin; refine wpList_app_sliceP (by rfl) _ _ (by rfl) HO.out (by rfl) P (G q) (R q) (C q) (HAQ.out.1.kept HK.out) HAQ.out.2.1 HAQ.out.2.2 (by rfl) hwl (by omega) ?_; intro v6 w6 ho6 hg6)
          have O6 := Lib.hid (show OwnQ 45 w6 w.heap.size v6 (catP R (q + 1)) from ho6)
          have K6 := Lib.hid (show Kept w w6 from Below.grown HK.out hg6 hwl (fun y hy => (HO.out.lt y hy).1))
          clear ho6 hg6
          go_wp2_with fail
          go_roundg (j + 1 - (q + 1))
          case measure => omega
          case rel => exact ⟨q + 1, v6, rfl, by omega, rfl, by go_num, O6.out, K6.out⟩
        · obtain rfl : q = j := by omega
          go_wp2_with fail
          go_ret
          exact ⟨v, rfl, HO.out, HK.out⟩

end Go.Proofs.YtkpagahnmbchjaaGreatDoor

namespace Go.Proofs.YtkpagahnmbchjaaGreatDoor
open Go.RowKit
set_option linter.unusedSimpArgs false
set_option linter.unusedVariables false

/-- 'copy' of elements of several cells into a row of its own. -/
theorem run_copy_rowsC {P : Program} (w : World) (dT sT ty elem : TypeId) (sz g o dLen dCap : Nat) (a : Addr) (sLen sCap n : Nat) (cur : Array Value) (t : TypeId) (cs : List Value)
    (hu : P.underlying dT = some (.slice elem)) (hs : (P.info? elem).map (·.size) = some sz)
    (hg : w.heap[g]? = some (.cells cur t (0, 0))) (hn : n = Nat.min sLen dLen) (hcs : cs.length = n * sz)
    (hsrc : ∀ j v, cs[j]? = some v → w.cell? (a.add j) = some v) (hfit : o + cs.length ≤ cur.size) (h1 : ∀ v ∈ cs, v.oneCell' = true) :
    (Builtin.copy_ #[dT, sT] ty #[.slice (some ⟨g, o, none⟩) dLen dCap, .slice (some a) sLen sCap]).run P w =
      .ok (goInt n) (w.setRow g (cur.toList.take o ++ cs ++ cur.toList.drop (o + cs.length)).toArray) := by
  have hl := run_loadCells_list (P := P) w a cs hsrc
  have hst := run_storeCells_at P g o t cs 0 cur w hg (by simpa using hfit) h1
  cases hq : P.info? elem with
  | none => simp [hq] at hs
  | some i =>
    have hi : i.size = sz := by simpa [hq] using hs
    simp [Builtin.copy_, run_underlying hu, Builtin.lenOf, Builtin.firstCells, sizeOf, typeInfo, hq, hi, ← hn, ← hcs, hl, hst]

theorem wp_copy_runNC {P : Program} (w : World) {o : Oper} {a : Act} {K : Act → World → Prop} {Q : Exit → Act → World → Prop} (d s : Operand) (t t' : TypeId)
    (ho : o.op = .call { callee := .builtin .copy, args := #[d, s], argTypes := #[t, t'] }) (v u : Value) (hd : a.eval d = v) (hs : a.eval s = u) {v' : Value} {w' : World}
    (hr : (Builtin.copy_ #[t, t'] o.type #[v, u]).run P w = .ok v' w') (h : K (a.put o.dst v') w') : o.wp P a w K Q := by
  unfold Oper.wp execOp
  simp only [ho, resolve, invoke, builtin, Sem.run_bind, Sem.run_pure, Result.andThen_ok, List.map_toArray, List.map_cons, List.map_nil, hd, hs, hr]
  exact h
theorem wpList_copy_runNC {P : Program} (w : World) {ops : Array Oper} {rest : List Oper} {o : Oper} {a : Act} {Q : Exit → Act → World → Prop} (hgd : o.guard = none) (d s : Operand) (t t' : TypeId)
    (ho : o.op = .call { callee := .builtin .copy, args := #[d, s], argTypes := #[t, t'] }) (v u : Value) (hd : a.eval d = v) (hs : a.eval s = u) {v' : Value} {w' : World}
    (hr : (Builtin.copy_ #[t, t'] o.type #[v, u]).run P w = .ok v' w') (h : wpList P ops Q rest (a.put o.dst v') w') : wpList P ops Q (o :: rest) a w :=
  wpList_plain hgd fun _ hK => wp_copy_runNC w d s t t' ho v u hd hs hr (hK _ _ h)
theorem step_copy_runNC {P : Program} {ops : Array Oper} {o : Oper} {a : Act} {w : World} {K : Act → World → Prop} {Q : Exit → Act → World → Prop} {E : Prop}
    (hg : o.guard = none) (d x : Operand) (dT sT : TypeId) (hop : o.op = Op.call { callee := Callee.builtin Builtin.copy, args := #[d, x], argTypes := #[dT, sT] })
    (v u : Value) (hd : a.eval d = v) (hx : a.eval x = u) {v' : Value} {w' : World} (hr : (Builtin.copy_ #[dT, sT] o.type #[v, u]).run P w = .ok v' w') (hK : K (a.put o.dst v') w') :
    if Region.wanted o (yielded ops a.tmps) = true then Oper.wp P o a w K Q else E := by
  have hw : Region.wanted o (yielded ops a.tmps) = true := by simp [Region.wanted, hg]
  rw [if_pos hw]
  unfold Oper.wp
  simp [execOp, hop, resolve, invoke, builtin, hd, hx, hr, Result.andThen]
  exact hK

theorem Kept.setRow {a w : World} (h : Kept a w) {g : Nat} (hg : a.heap.size ≤ g) (cs : Array Value) : Kept a (w.setRow g cs) :=
  ⟨h.os, h.tape, h.output, by simpa [World.setRow] using h.size, fun k hk => (setRow_other w g k cs (by omega)).trans (h.block k hk)⟩
theorem Blk.setRow {w : World} {g : Nat} {old : Array Value} {t : TypeId} (h : Blk w g old t) (cs : Array Value) : Blk (w.setRow g cs) g cs t := setRow_heap w g old cs t (0, 0) h

end Go.Proofs.YtkpagahnmbchjaaGreatDoor

namespace Go.Proofs.YtkpagahnmbchjaaGreatDoor
open Go.RowKit Cx
set_option linter.unusedSimpArgs false
set_option linter.unusedVariables false

theorem Mul_oneP (n : Nat) (hn : n < 18446744073709551616) (w : World) :
    Calls Tryz.prog 46 #[.int .u64 1, .int .u64 n] w fun e w' => e = .returned (.tuple #[.int .u64 0, .int .u64 n]) ∧ w = w' :=
  (Tryz.bits_Mul 1 n (by decide) hn w).mono fun e w' ⟨he, hw⟩ => ⟨by
    rw [he, Nat.one_mul, Nat.div_eq_of_lt hn, Nat.mod_eq_of_lt hn]; rfl, hw.symm⟩

/-- m of n operators are there. -/
def repC (nm : ByteArray) (n m : Nat) : List Value := (List.range (n * 2)).map fun i => if i % 2 = 0 then (if i < m * 2 then .string nm else .string ⟨#[]⟩) else .slice none 0 0
theorem repC_len (nm : ByteArray) (n m : Nat) : (repC nm n m).length = n * 2 := by unfold repC; simp
theorem repC_get (nm : ByteArray) (n m i : Nat) (h : i < n * 2) : (repC nm n m)[i]? = some (if i % 2 = 0 then (if i < m * 2 then .string nm else .string ⟨#[]⟩) else .slice none 0 0) := by
  unfold repC; simp [h]
theorem repC_splice (nm : ByteArray) (n m q : Nat) (h : m + q ≤ n) : (repC nm n m).take (m * 2) ++ repC nm q q ++ (repC nm n m).drop (m * 2 + (repC nm q q).length) = repC nm n (m + q) := by
  apply List.ext_getElem?
  intro i
  rw [repC_len]
  by_cases h1 : i < m * 2
  · rw [List.append_assoc, List.getElem?_append_left (by rw [List.length_take, repC_len]; omega), List.getElem?_take, if_pos h1, repC_get _ _ _ _ (by omega), repC_get _ _ _ _ (by omega), if_pos h1, if_pos (show i < (m + q) * 2 by omega)]
  · by_cases h2 : i < (m + q) * 2
    · rw [List.getElem?_append_left (by rw [List.length_append, List.length_take, repC_len, repC_len]; omega), List.getElem?_append_right (by rw [List.length_take, repC_len]; omega), List.length_take, repC_len,
        repC_get _ _ _ _ (by omega), repC_get _ _ _ _ (by omega), if_pos (show i - min (m * 2) (n * 2) < q * 2 by omega), if_pos h2, show (i - min (m * 2) (n * 2)) % 2 = i % 2 by omega]
    · by_cases h3 : i < n * 2
      · rw [List.getElem?_append_right (by rw [List.length_append, List.length_take, repC_len, repC_len]; omega), List.length_append, List.length_take, repC_len, repC_len, List.getElem?_drop,
          show m * 2 + q * 2 + (i - (min (m * 2) (n * 2) + q * 2)) = i by omega, repC_get _ _ _ _ h3, repC_get _ _ _ _ h3, if_neg h1, if_neg h2]
      · rw [List.getElem?_eq_none (by rw [List.length_append, List.length_append, List.length_take, List.length_drop, repC_len, repC_len]; omega), List.getElem?_eq_none (by rw [repC_len]; omega)]
theorem repC_one {nm : ByteArray} {n m : Nat} : ∀ v ∈ repC nm n m, v.oneCell' = true := fun v hv => by
  unfold repC at hv
  obtain ⟨i, -, rfl⟩ := List.mem_map.1 hv
  split
  · split <;> rfl
  · rfl
theorem repC_made {w' : World} {B g n : Nat} (nm : ByteArray) (h : w'.ownsRow B 45 2 (.slice (some ⟨g, 0, none⟩) n n) n (madeCells (Value.agg #[.string ⟨#[]⟩, .slice none 0 0]).cells (n * 2)).toList) : Blk w' g (repC nm n 0).toArray 45 := by
  obtain ⟨h0, h1 | ⟨g', cap, cur, he, hb, hh, hn, hc, hs, ht⟩⟩ := h
  · obtain ⟨h1, -⟩ := h1
    cases h1
  · injection he with e1 e2 e3
    injection e1 with e1
    injection e1 with e1
    subst e1 e3
    unfold Blk
    rw [hh]
    congr 2
    apply Array.ext'
    rw [List.take_of_length_le (by rw [Array.length_toList]; omega)] at ht
    rw [ht]
    unfold repC madeCells
    apply List.ext_getElem
    · simp
    · intro i hi hj
      have hz : (Value.agg #[.string ⟨#[]⟩, .slice none 0 0]).cells = #[.string ⟨#[]⟩, .slice none 0 0] := rfl
      simp only [hz, Array.toList_map, List.getElem_map, Array.toList_range, List.getElem_range]
      have : i % 2 = 0 ∨ i % 2 = 1 := by omega
      rcases this with h | h
      · simp [h]
      · simp [h]

set_option maxRecDepth 100000 in
set_option maxHeartbeats 800000 in
theorem RepeatP_one (nm : ByteArray) (n k : Nat) (w : World) (hk : Blk w k #[.string nm, .slice none 0 0] 45) (h1 : 1 ≤ n) (hn : n ≤ 1048576) :
    Calls Tryz.prog 36 #[.slice (some ⟨k, 0, none⟩) 1 1, .int .i64 n] w fun e w' => ∃ g, e = .returned (.slice (some ⟨g, 0, none⟩) n n) ∧ w.heap.size ≤ g ∧ Blk w' g (repC nm n n).toArray 45 ∧ Kept w w' := by
  have BM := Lib.hid (Mul_oneP n (by omega))
  have HK := Lib.hid hk
  have i0 : ¬ (n : Int) < 0 := by omega
  have i1 : ¬ (9223372036854775807 : Int) < (n : Int) := by omega
  obtain ⟨i0', hi, hz0, hz1, hz2⟩ := info_parts info_op
  have hsz : (Tryz.prog.info? 45).map (·.size) = some 2 := by kernel_rfl
  have CP1 := Lib.hid (show ∀ W, Blk W w.heap.size (repC nm n 0).toArray 45 → Kept w W → ∀ ty, (Builtin.copy_ #[36, 36] ty #[.slice (some ⟨w.heap.size, 0, none⟩) n n, .slice (some ⟨k, 0, none⟩) 1 1]).run Tryz.prog W = .ok (goInt 1) (W.setRow w.heap.size (repC nm n 1).toArray) from fun W hW hKW ty => by
    have z := run_copy_rowsC (P := Tryz.prog) W 36 36 ty 45 2 w.heap.size 0 n n ⟨k, 0, none⟩ 1 1 1 (repC nm n 0).toArray 45 (repC nm 1 1) Tryz.underlying36 hsz hW
      (by simp only [Nat.min_def]; split <;> omega) (repC_len _ _ _) (fun j v hj => by
        rw [Addr.add_lit, Nat.zero_add, (HK.out.kept hKW).cell j]
        have hj2 := (List.getElem?_eq_some_iff.1 hj).1
        rw [repC_len] at hj2
        rw [repC_get _ _ _ _ hj2] at hj
        rcases (show j = 0 ∨ j = 1 by omega) with rfl | rfl
        · simpa using hj
        · simpa using hj) (by rw [repC_len, List.size_toArray, repC_len]; omega) repC_one
    rw [z]
    have sp := repC_splice nm n 0 1 (by omega)
    rw [Nat.zero_mul] at sp
    simp only [List.toList_toArray] at sp ⊢
    rw [sp]
    rfl)
  clear hk
  go_enter Tryz.func36, Tryz.ntmps36
  go_upto_region 7 with (first
    | (go_at_call 46; (with_reducible refine (BM.out _).mono ?_); rintro e w1 ⟨rfl, rfl⟩)
    | (at_make; refine wpList_make_full _ rfl _ _ 36 rfl w.heap.size 45 i0' _ 2 Tryz.underlying36 hi hz0 hz1 .i64 .i64 _ _ n rfl rfl rfl rfl (by rw [hz2]; omega) (by unfold maxLen; omega) (Nat.le_refl _) ?_; intro w4 hown hgrow; have G4 := Lib.hid (repC_made nm hown); have K4 := Lib.hid (show Kept w w4 from Below.grown (Kept.refl w) hgrow (Nat.le_refl _) (fun k h => by cases h)); clear hown hgrow))
  go_upto_region 8 with (refine wpList_copy_runNC _ rfl _ _ 36 36 rfl (.slice (some ⟨w.heap.size, 0, none⟩) n n) (.slice (some ⟨k, 0, none⟩) 1 1) rfl rfl (CP1.out _ G4.out K4.out _) ?_)
  have G5 := Lib.hid (G4.out.setRow (repC nm n 1).toArray)
  have K5 := Lib.hid (K4.out.setRow (Nat.le_refl _) (repC nm n 1).toArray)
  go_loopg [8] (n - 1) (fun m x wr => ∃ j : Nat, m = n - j ∧ 1 ≤ j ∧ j ≤ n ∧ x = .int .i64 j ∧ Blk wr w.heap.size (repC nm n j).toArray 45 ∧ Kept w wr)
  case atStart => exact ⟨1, rfl, Nat.le_refl _, h1, rfl, G5.out, K5.out⟩
  case round =>
    obtain ⟨j, hm, hj1, hjn, rfl, ha, hkk⟩ := hrel
    have HA := Lib.hid ha
    have HKK := Lib.hid hkk
    clear ha hkk
    by_cases hlt : j < n
    · have j1 : (j : Int) < (n : Int) := by omega
      have nj : ¬ n = j := by omega
      obtain ⟨q, hq⟩ : ∃ q, q = min j (n - j) := ⟨_, rfl⟩
      have q1 : 1 ≤ q := by omega
      have q2 : j + q ≤ n := by omega
      have HQ := Lib.hid hq
      clear hq
      have CP2 := Lib.hid (show ∀ ty, (Builtin.copy_ #[36, 36] ty #[.slice (some ⟨w.heap.size, j * 2, none⟩) (n - j) (n - j), .slice (some ⟨w.heap.size, 0, none⟩) j n]).run Tryz.prog wr.drew = .ok (goInt q) (wr.drew.setRow w.heap.size (repC nm n (j + q)).toArray) from fun ty => by
        have z := run_copy_rowsC (P := Tryz.prog) wr.drew 36 36 ty 45 2 w.heap.size (j * 2) (n - j) (n - j) ⟨w.heap.size, 0, none⟩ j n q (repC nm n j).toArray 45 (repC nm q q) Tryz.underlying36 hsz HA.out
          (by have := HQ.out; simp only [Nat.min_def] at this ⊢; split at this <;> split <;> omega) (repC_len _ _ _) (fun i v hi => by
            have hi2 := (List.getElem?_eq_some_iff.1 hi).1
            rw [repC_len] at hi2
            have hqj := HQ.out
            rw [repC_get _ _ _ _ hi2, if_pos hi2] at hi
            rw [Addr.add_lit, Nat.zero_add, Blk.cell (Blk.drew HA.out) i]
            rw [List.getElem?_toArray, repC_get _ _ _ _ (by omega), if_pos (show i < j * 2 by omega)]
            exact hi) (by rw [repC_len, List.size_toArray, repC_len]; omega) repC_one
        rw [z]
        have sp := repC_splice nm n j q q2
        simp only [List.toList_toArray] at sp ⊢
        rw [sp])
      have HW := Lib.hid (show Value.int .i64 (IntKind.i64.wrap ((j : Int) + (q : Int))) = .int .i64 ((j + q : Nat) : Int) by rw [IntWalk.i64_in ((j : Int) + (q : Int)) (by omega)]; rfl)
      have G6 := Lib.hid ((Blk.drew HA.out).setRow (repC nm n (j + q)).toArray)
      have K6 := Lib.hid (HKK.out.drew.setRow (Nat.le_refl _) (repC nm n (j + q)).toArray)
      have q3 : wrap64 ((j : Int) + (q : Int)) = ((j + q : Nat) : Int) := by unfold wrap64; omega
      go_wp2_with fail
      go_region_law ((refine step_copy_runNC (by rfl) _ _ 36 36 (by rfl) (.slice (some ⟨w.heap.size, j * 2, none⟩) (n - j) (n - j)) (.slice (some ⟨w.heap.size, 0, none⟩) j n) (by simp [Act.eval, Act.put]) (by simp [Act.eval, Act.put]) (CP2.out _) ?_))
      go_wp2_with fail
      go_simp
      go_roundg (n - (j + q))
      case measure => exact Nat.sub_lt_sub_left hlt (Nat.lt_add_of_pos_right q1)
      case rel => exact ⟨j + q, rfl, Nat.le_add_right_of_le hj1, q2, by (first | exact HW.out | (rw [show goInt q = .int .i64 q from rfl]; exact HW.out)), G6.out, K6.out⟩
    · obtain rfl : j = n := by omega
      go_wp2_with fail
      go_ret
      exact ⟨w.heap.size, rfl, Nat.le_refl _, HA.out, HKK.out⟩

set_option maxRecDepth 100000 in
theorem times_any (nm : ByteArray) (n : Nat) (w : World) (h1 : 1 ≤ n) (hn : n ≤ 1048576) :
    Calls Tryz.prog 25 #[.string nm, .int .i64 n] w fun e w' => ∃ g, e = .returned (.slice (some ⟨g, 0, none⟩) n n) ∧ w.heap.size ≤ g ∧ Blk w' g (repC nm n n).toArray 45 ∧ Kept w w' := by
  have K1 := Lib.hid ((Kept.refl w).alloc #[.string nm, .slice none 0 0] 45)
  have RP := Lib.hid (RepeatP_one nm n w.heap.size (w.alloc (.cells #[.string nm, .slice none 0 0] 45)) (Blk.fresh w _ _) h1 hn)
  clear h1 hn
  go_enter Tryz.func25, Tryz.ntmps25
  go_wp2_with fail
  (with_reducible refine RP.out.mono ?_)
  rintro e w2 ⟨g, rfl, hg, hb, hk⟩
  have HG := Lib.hid (show w.heap.size ≤ g by have := K1.out.size; omega)
  have HB := Lib.hid hb
  have K2 := Lib.hid (K1.out.trans hk)
  clear hg hb hk
  go_wp2_with fail
  go_ret
  exact ⟨g, rfl, HG.out, HB.out, K2.out⟩

/-- They lie there as operators. -/
theorem repC_opR {w : World} {g n : Nat} {nm : ByteArray} (h : Blk w g (repC nm n n).toArray 45) (hs : nm.size ≤ maxLen) : OpR (fun _ => True) w (some ⟨g, 0, none⟩) (List.replicate n (opO nm [], ⟨none, 0, none, 0⟩)) := by
  refine ⟨fun i hi => ?_, fun r hr => ?_⟩
  · have hi' : i < n := by simpa using hi
    refine ⟨g, 0, rfl, trivial, h.lt, ?_, ?_⟩
    · rw [h.cell, List.getElem?_toArray, repC_get _ _ _ _ (by omega), List.getElem_replicate, if_pos (by omega), if_pos (by omega)]; rfl
    · rw [h.cell, List.getElem?_toArray, repC_get _ _ _ _ (by omega), List.getElem_replicate, if_neg (by omega)]; rfl
  · rw [List.eq_of_mem_replicate hr]
    exact Lies.flat _ 0 0 0 nm _ hs

end Go.Proofs.YtkpagahnmbchjaaGreatDoor

namespace Go.Proofs.YtkpagahnmbchjaaGreatDoor
open Go.RowKit Cx
set_option linter.unusedSimpArgs false
set_option linter.unusedVariables false

set_option maxRecDepth 100000 in
theorem step_any (s : ByteArray) (p : Option Addr) (n c : Nat) (w : World) (d : Int) (hd : d = stepV s.data.toList) :
    Calls Tryz.prog 23 #[.agg #[.string s, .slice p n c]] w fun e w' => e = .returned (.int .i64 d) ∧ Kept w w' := by
  have K1 := Lib.hid ((Kept.refl w).alloc #[.string s, .slice p n c] 45)
  rw [← Lib.toList_data] at hd
  have HD := Lib.hid (show d = if s.toList = [113] then 1 else if s.toList = [81] then -1 else 0 from hd)
  clear hd
  cases h1 : (s.toList == [113])
  · cases h2 : (s.toList == [81])
    · obtain rfl : d = 0 := by rw [HD.out, if_neg (by simpa using h1), if_neg (by simpa using h2)]
      go_enter Tryz.func23, Tryz.ntmps23
      go_wp2_with fail
      go_ret
      exact ⟨rfl, K1.out⟩
    · obtain rfl : d = -1 := by rw [HD.out, if_neg (by simpa using h1), if_pos (by simpa using h2)]
      go_enter Tryz.func23, Tryz.ntmps23
      go_wp2_with fail
      go_ret
      exact ⟨rfl, K1.out⟩
  · obtain rfl : d = 1 := by rw [HD.out, if_pos (by simpa using h1)]
    go_enter Tryz.func23, Tryz.ntmps23
    go_wp2_with fail
    go_ret
    exact ⟨rfl, K1.out⟩

theorem bal_cons (x : Ob) (r : List Ob) (k : Int) (b : Bool) : balGo (x :: r) k b = if (x.s.toList == [113]) || (x.s.toList == [81]) then (if b || decide (k + stepV x.s.data.toList < 0) then false else balGo r (k + stepV x.s.data.toList) b) else if (x.s.toList == [66, 84]) || (x.s.toList == [69, 84]) then (if b == (x.s.toList == [66, 84]) then false else balGo r k (!b)) else balGo r k b := by
  rw [balGo, Lib.toList_data]; simp only [Bool.or_eq_true, beq_iff_eq]

set_option maxRecDepth 100000 in
set_option maxHeartbeats 8000000 in
theorem Balanced_any (P : Nat → Prop) (rs : ORow) (p : Option Addr) (c : Nat) (w : World) (h : OpR P w p rs) (hb : rs.length ≤ 1099511627776) :
    Calls Tryz.prog 16 #[.slice p rs.length c] w fun e w' => e = .returned (.bool (balV (rs.map (·.1)))) ∧ Kept w w' := by
  have HR := Lib.hid h
  obtain ⟨X, hX⟩ : ∃ X, X = balV (rs.map (·.1)) := ⟨_, rfl⟩
  have HX := Lib.hid (show balGo ((rs.map (·.1)).drop 0) 0 false = X by rw [List.drop_zero]; exact hX.symm)
  rw [← hX]
  obtain ⟨L, hL⟩ : ∃ L, L = rs.length := ⟨_, rfl⟩
  have HL := Lib.hid hL
  rw [← hL] at hb ⊢
  clear h hX hL
  go_enter Tryz.func16, Tryz.ntmps16
  go_wp2_with fail
  go_loopg [3, 4, 9] L (fun m kept inT i wr => ∃ (j : Nat) (k : Int) (b : Bool), m = L - j ∧ j ≤ L ∧ i = .int .i64 j ∧ kept = .int .i64 k ∧ inT = .bool b ∧ -(j : Int) ≤ k ∧ k ≤ j ∧ Hid (balGo ((rs.map (·.1)).drop j) k b = X) ∧ Kept w wr)
  case atStart => exact ⟨0, 0, false, by omega, Nat.zero_le _, rfl, rfl, rfl, by omega, by omega, HX, Kept.refl _⟩
  case round =>
    obtain ⟨j, k, b, hm, hj, rfl, rfl, rfl, hk1, hk2, HJ, hkk⟩ := hrel
    have KR := Lib.hid hkk
    by_cases hlt : j < L
    · have j1 : (j : Int) < (L : Int) := by omega
      have hjr : j < rs.length := by have := HL.out; omega
      obtain ⟨kb, off, hpe, -, hbl, c0, c1⟩ := (HR.out.kept hkk).at' j hjr
      subst hpe
      obtain ⟨r, hr⟩ : ∃ r, rs[j] = r := ⟨_, rfl⟩
      rw [hr] at c0 c1
      have hdr : (rs.map (·.1)).drop j = r.1 :: (rs.map (·.1)).drop (j + 1) := by
        rw [List.drop_eq_getElem_cons (by rw [List.length_map]; exact hjr), List.getElem_map, hr]
      have HST := Lib.hid (show X = balGo (r.1 :: (rs.map (·.1)).drop (j + 1)) k b by rw [← hdr]; exact HJ.out.symm)
      obtain ⟨⟨xk, xn, xf, nm, xl, xd⟩, ⟨hp, hc, hq, he⟩⟩ := r
      simp only [Ob.s, Ob.l] at c0 c1
      obtain ⟨N, hN⟩ : ∃ N, N = xl.length := ⟨_, rfl⟩
      rw [← hN] at c1
      obtain ⟨d, hd⟩ : ∃ d, d = stepV nm.data.toList := ⟨_, rfl⟩
      have HD := Lib.hid hd
      have hdv := step_vals nm.data.toList
      rw [← hd] at hdv
      have HST2 := Lib.hid (show X = if (nm.toList == [113]) || (nm.toList == [81]) then (if b || decide (k + d < 0) then false else balGo ((rs.map (·.1)).drop (j + 1)) (k + d) b) else if (nm.toList == [66, 84]) || (nm.toList == [69, 84]) then (if b == (nm.toList == [66, 84]) then false else balGo ((rs.map (·.1)).drop (j + 1)) k (!b)) else balGo ((rs.map (·.1)).drop (j + 1)) k b by
        rw [hd]; exact HST.out.trans (bal_cons _ _ _ _))
      have d1 : -1 ≤ d := by omega
      have d2 : d ≤ 1 := by omega
      have KA := Lib.hid (hkk.alloc #[.string nm, .slice hp N hc] 45)
      have SC := Lib.hid (step_any nm hp N hc (wr.alloc (.cells #[.string nm, .slice hp N hc] 45)) d hd)
      have iw : wrap64 (k + d) = k + d := by unfold wrap64; omega
      have jw := Lib.hid (show Value.int .i64 (wrap64 ((j : Int) + 1)) = .int .i64 ((j + 1 : Nat) : Int) by (rw [show wrap64 ((j : Int) + 1) = ((j + 1 : Nat) : Int) by (unfold wrap64; omega)]))
      clear hr hdr hN hd HST hkk HJ hdv
      cases e1 : (nm.toList == [113])
      · cases e2 : (nm.toList == [81])
        · have HST3 := Lib.hid (show X = if (nm.toList == [66, 84]) || (nm.toList == [69, 84]) then (if b == (nm.toList == [66, 84]) then false else balGo ((rs.map (·.1)).drop (j + 1)) k (!b)) else balGo ((rs.map (·.1)).drop (j + 1)) k b by
            rw [HST2.out, e1, e2]; rfl)
          cases e3 : (nm.toList == [66, 84])
          · cases e4 : (nm.toList == [69, 84])
            · have HY := Lib.hid (show balGo ((rs.map (·.1)).drop (j + 1)) k b = X by rw [HST3.out, e3, e4]; rfl)
              go_wp2_with fail
              go_roundg (L - (j + 1))
              case measure => omega
              case rel => exact ⟨j + 1, k, b, rfl, hlt, by (first | go_num | exact jw.out), rfl, rfl, by omega, by omega, HY, KA.out⟩
            · cases b
              · have HY := Lib.hid (show X = false by rw [HST3.out, e3, e4]; rfl)
                obtain rfl : X = false := HY.out
                go_wp2_with fail
                go_ret
                exact ⟨rfl, KA.out⟩
              · have HY := Lib.hid (show balGo ((rs.map (·.1)).drop (j + 1)) k false = X by rw [HST3.out, e3, e4]; rfl)
                go_wp2_with fail
                go_roundg (L - (j + 1))
                case measure => omega
                case rel => exact ⟨j + 1, k, false, rfl, hlt, by (first | go_num | exact jw.out), rfl, rfl, by omega, by omega, HY, KA.out⟩
          · cases b
            · have HY := Lib.hid (show balGo ((rs.map (·.1)).drop (j + 1)) k true = X by rw [HST3.out, e3]; rfl)
              go_wp2_with fail
              go_roundg (L - (j + 1))
              case measure => omega
              case rel => exact ⟨j + 1, k, true, rfl, hlt, by (first | go_num | exact jw.out), rfl, rfl, by omega, by omega, HY, KA.out⟩
            · have HY := Lib.hid (show X = false by rw [HST3.out, e3]; rfl)
              obtain rfl : X = false := HY.out
              go_wp2_with fail
              go_ret
              exact ⟨rfl, KA.out⟩
        · have HST3 := Lib.hid (show X = if b || decide (k + d < 0) then false else balGo ((rs.map (·.1)).drop (j + 1)) (k + d) b by rw [HST2.out, e1, e2]; rfl)
          cases b
          · by_cases hneg : k + d < 0
            · obtain rfl : X = false := by rw [HST3.out, decide_eq_true hneg]; rfl
              go_wp2_with fail
              (with_reducible refine SC.out.mono ?_)
              rintro e w2 ⟨rfl, hk2⟩
              have K2 := Lib.hid (KA.out.trans hk2)
              clear hk2
              go_wp2_with fail
              go_ret
              exact ⟨rfl, K2.out⟩
            · have HY := Lib.hid (show balGo ((rs.map (·.1)).drop (j + 1)) (k + d) false = X by rw [HST3.out, decide_eq_false hneg]; rfl)
              go_wp2_with fail
              (with_reducible refine SC.out.mono ?_)
              rintro e w2 ⟨rfl, hk2⟩
              have K2 := Lib.hid (KA.out.trans hk2)
              clear hk2
              go_wp2_with fail
              go_roundg (L - (j + 1))
              case measure => omega
              case rel => exact ⟨j + 1, k + d, false, rfl, hlt, by (first | go_num | exact jw.out), rfl, rfl, by omega, by omega, HY, K2.out⟩
          · obtain rfl : X = false := by rw [HST3.out]; rfl
            go_wp2_with fail
            (with_reducible refine SC.out.mono ?_)
            rintro e w2 ⟨rfl, hk2⟩
            have K2 := Lib.hid (KA.out.trans hk2)
            clear hk2
            go_wp2_with fail
            go_ret
            exact ⟨rfl, K2.out⟩
      · have HST3 := Lib.hid (show X = if b || decide (k + d < 0) then false else balGo ((rs.map (·.1)).drop (j + 1)) (k + d) b by rw [HST2.out, e1]; rfl)
        cases b
        · by_cases hneg : k + d < 0
          · obtain rfl : X = false := by rw [HST3.out, decide_eq_true hneg]; rfl
            go_wp2_with fail
            (with_reducible refine SC.out.mono ?_)
            rintro e w2 ⟨rfl, hk2⟩
            have K2 := Lib.hid (KA.out.trans hk2)
            clear hk2
            go_wp2_with fail
            go_ret
            exact ⟨rfl, K2.out⟩
          · have HY := Lib.hid (show balGo ((rs.map (·.1)).drop (j + 1)) (k + d) false = X by rw [HST3.out, decide_eq_false hneg]; rfl)
            go_wp2_with fail
            (with_reducible refine SC.out.mono ?_)
            rintro e w2 ⟨rfl, hk2⟩
            have K2 := Lib.hid (KA.out.trans hk2)
            clear hk2
            go_wp2_with fail
            go_roundg (L - (j + 1))
            case measure => omega
            case rel => exact ⟨j + 1, k + d, false, rfl, hlt, by (first | go_num | exact jw.out), rfl, rfl, by omega, by omega, HY, K2.out⟩
        · obtain rfl : X = false := by rw [HST3.out]; rfl
          go_wp2_with fail
          (with_reducible refine SC.out.mono ?_)
          rintro e w2 ⟨rfl, hk2⟩
          have K2 := Lib.hid (KA.out.trans hk2)
          clear hk2
          go_wp2_with fail
          go_ret
          exact ⟨rfl, K2.out⟩
    · obtain rfl : j = L := by omega
      have HE := Lib.hid (show X = (k == 0 && !b) by
        rw [← HJ.out, List.drop_of_length_le (by rw [List.length_map, HL.out]; exact Nat.le_refl _)]; rfl)
      cases hk0 : (k == 0)
      · obtain rfl : X = false := by rw [HE.out, hk0]; rfl
        go_wp2_with fail
        go_ret
        exact ⟨rfl, KR.out⟩
      · obtain rfl : X = !b := by rw [HE.out, hk0]; rfl
        go_wp2_with fail
        go_ret
        exact ⟨rfl, KR.out⟩

end Go.Proofs.YtkpagahnmbchjaaGreatDoor

namespace Go.Proofs.YtkpagahnmbchjaaGreatDoor
open Go.RowKit Cx
set_option linter.unusedSimpArgs false
set_option linter.unusedVariables false
attribute [local go_sem ↓] run_lower

def WrapPost (l : List Ob) (w : World) (e : Ending) (w' : World) : Prop :=
  ∃ p c rs, e = .returned (.slice p rs.length c) ∧ Kept w w' ∧ rs.map (·.1) = wrapV l ∧ OpR (fun _ => True) w' p rs

set_option maxRecDepth 100000 in
set_option maxHeartbeats 8000000 in
theorem Wrap_any (rs : ORow) (p : Option Addr) (c : Nat) (w : World) (h : OpR (fun _ => True) w p rs) (hnil : p = none → c = 0) (hp0 : ∀ ad, p = some ad → ad = ⟨ad.block, ad.off, none⟩) (hb : rs.length ≤ 131072) :
    Calls Tryz.prog 15 #[.slice p rs.length c] w (WrapPost (rs.map (·.1)) w) := by
  have HR := Lib.hid h
  have HN := Lib.hid hnil
  have HP0 := Lib.hid hp0
  obtain ⟨l, hl⟩ : ∃ l, l = rs.map (·.1) := ⟨_, rfl⟩
  have HLL := Lib.hid hl
  rw [← hl]
  obtain ⟨L, hL⟩ : ∃ L, L = rs.length := ⟨_, rfl⟩
  have HL := Lib.hid hL
  have hlL : l.length = L := by rw [hl, List.length_map, hL]
  have HlL := Lib.hid hlL
  rw [← hL] at hb ⊢
  clear h hnil hp0 hl hL hlL
  go_enter Tryz.func15, Tryz.ntmps15
  go_wp2_with fail
  go_loopg [3, 4, 9] L (fun m kept least i wr => ∃ (j : Nat) (k t : Int), m = L - j ∧ j ≤ L ∧ i = .int .i64 j ∧ kept = .int .i64 k ∧ least = .int .i64 t ∧ Hid (k = keptV (l.take j) ∧ t = leastV (l.take j)) ∧ -(j : Int) ≤ k ∧ k ≤ j ∧ -(j : Int) ≤ t ∧ t ≤ 0 ∧ t ≤ k ∧ Kept w wr)
  case atStart => exact ⟨0, 0, 0, by omega, Nat.zero_le _, rfl, rfl, rfl, Lib.hid ⟨rfl, rfl⟩, by omega, by omega, by omega, by omega, by omega, Kept.refl _⟩
  case round =>
    obtain ⟨j, k, t, hm, hj, rfl, rfl, rfl, HKT, hk1, hk2, ht1, ht2, htk, hkk⟩ := hrel
    have KR := Lib.hid hkk
    by_cases hlt : j < L
    · have j1 : (j : Int) < (L : Int) := by omega
      have hjr : j < rs.length := by have := HL.out; omega
      have hjl : j < l.length := by have := HlL.out; omega
      obtain ⟨kb, off, hpe, -, hbl, c0, c1⟩ := (HR.out.kept hkk).at' j hjr
      subst hpe
      obtain ⟨r, hr⟩ : ∃ r, rs[j] = r := ⟨_, rfl⟩
      rw [hr] at c0 c1
      have hlj : l[j] = r.1 := by
        have : l[j]? = some r.1 := by rw [HLL.out, List.getElem?_map, List.getElem?_eq_getElem hjr, hr]; rfl
        exact Option.some.inj ((List.getElem?_eq_getElem hjl).symm.trans this)
      have hK := kept_take l j hjl
      have hT := least_take l j hjl
      have hKb := kept_bound (l.take (j + 1))
      have hTb := least_bound (l.take (j + 1))
      have hT0 := least_0 (l.take (j + 1))
      rw [hlj] at hK
      obtain ⟨⟨xk, xn, xf, nm, xl, xd⟩, ⟨hp, hc, hq, he⟩⟩ := r
      simp only [Ob.s, Ob.l] at c0 c1 hK
      obtain ⟨N, hN⟩ : ∃ N, N = xl.length := ⟨_, rfl⟩
      rw [← hN] at c1
      obtain ⟨d, hd⟩ : ∃ d, d = stepV nm.data.toList := ⟨_, rfl⟩
      rw [← hd, ← HKT.out.1] at hK
      rw [← HKT.out.2] at hT
      have hlen : (l.take (j + 1)).length = j + 1 := by rw [List.length_take]; omega
      rw [hlen] at hKb hTb
      rw [hK] at hT hKb hT0
      have KA := Lib.hid (hkk.alloc #[.string nm, .slice hp N hc] 45)
      have SC := Lib.hid (step_any nm hp N hc (wr.alloc (.cells #[.string nm, .slice hp N hc] 45)) d hd)
      have HKT2 := Lib.hid (show k + d = keptV (l.take (j + 1)) ∧ min t (k + d) = leastV (l.take (j + 1)) from ⟨hK.symm, hT.symm⟩)
      obtain ⟨t', ht'⟩ : ∃ t', t' = min t (k + d) := ⟨_, rfl⟩
      rw [← ht'] at hT HKT2
      rw [hT] at hTb hT0
      have b1 : -((j : Int) + 1) ≤ k + d := by omega
      have b2 : k + d ≤ (j : Int) + 1 := by omega
      have b3 : -((j : Int) + 1) ≤ t' := by omega
      have b4 := hT0.1
      have b5 := hT0.2
      have iw : wrap64 (k + d) = k + d := by unfold wrap64; omega
      have HT' := Lib.hid ht'
      clear hr hlj hK hT hKb hTb hT0 hN hd hkk hlen ht'
      go_wp2_with fail
      (with_reducible refine SC.out.mono ?_)
      rintro e w2 ⟨rfl, hk2⟩
      have K2 := Lib.hid (KA.out.trans hk2)
      clear hk2
      go_wp2_with fail
      go_roundg (L - (j + 1))
      case measure => omega
      case rel => exact ⟨j + 1, k + d, t', rfl, hlt, by go_num, rfl, by rw [HT'.out], HKT2, by omega, by omega, by omega, b4, b5, K2.out⟩
    · obtain rfl : j = L := by omega
      have HKT2 := Lib.hid (show k = keptV l ∧ t = leastV l by
        have := HKT.out
        rw [List.take_of_length_le (by rw [HlL.out]; exact Nat.le_refl _)] at this
        exact this)
      obtain ⟨a, ha⟩ : ∃ a : Nat, (a : Int) = 1 - t := ⟨(1 - t).toNat, by omega⟩
      obtain ⟨b, hbb⟩ : ∃ b : Nat, (b : Int) = 1 + k - t := ⟨(1 + k - t).toNat, by omega⟩
      have TA0 := times_any ⟨#[113]⟩ a wr (by omega) (by omega)
      have TB0 := fun w' => times_any ⟨#[81]⟩ b w' (by omega) (by omega)
      rw [ha] at TA0
      rw [hbb] at TB0
      have TA := Lib.hid TA0
      have TB := Lib.hid TB0
      have HAB := Lib.hid (And.intro ha hbb)
      have HAL := Lib.hid (show a + j + b ≤ 1048576 by omega)
      clear ha hbb hkk TA0 TB0
      go_wp2_with fail
      (with_reducible refine TA.out.mono ?_)
      rintro e w4 ⟨g, rfl, hg, hbg, hk4⟩
      have G4 := Lib.hid (And.intro hg hbg)
      have K4 := Lib.hid (KR.out.trans hk4)
      have K4' := Lib.hid hk4
      clear hg hbg hk4
      go_wp2_with fail
      (with_reducible refine (TB.out _).mono ?_)
      rintro e w5 ⟨g', rfl, hg, hbg, hk5⟩
      have G5 := Lib.hid (And.intro hg hbg)
      have K5 := Lib.hid (K4.out.trans hk5)
      have B5 := Lib.hid (Blk.kept G4.out.2 hk5)
      clear hg hbg hk5
      obtain ⟨R, hRR⟩ : ∃ R : Nat → ORow, R = fun i => if i = 0 then List.replicate a (qO, ⟨none, 0, none, 0⟩) else if i = 1 then rs else List.replicate b (bO, ⟨none, 0, none, 0⟩) := ⟨_, rfl⟩
      have hR0 : R 0 = List.replicate a (qO, ⟨none, 0, none, 0⟩) := by rw [hRR]; rfl
      have hR1 : R 1 = rs := by rw [hRR]; rfl
      have hR2 : R 2 = List.replicate b (bO, ⟨none, 0, none, 0⟩) := by rw [hRR]; rfl
      have hcat : catP R 3 = R 0 ++ R 1 ++ R 2 := by simp [catP]
      have hcl : (catP R 3).length = a + j + b := by rw [hcat, hR0, hR1, hR2]; simp only [List.length_append, List.length_replicate]; have := HL.out; omega
      have hcm : (catP R 3).map (·.1) = wrapV l := by
        have e1 : (1 - leastV l).toNat = a := by have := HAB.out.1; rw [HKT2.out.2] at this; omega
        have e2 : (1 + keptV l - leastV l).toNat = b := by have := HAB.out.2; rw [HKT2.out.1, HKT2.out.2] at this; omega
        rw [hcat, hR0, hR1, hR2]
        unfold wrapV
        rw [e1, e2, List.map_append, List.map_append, List.map_replicate, List.map_replicate, HLL.out]
      have KF := Lib.hid (K5.out.alloc #[.slice (some ⟨g, 0, none⟩) a a, .slice p j c, .slice (some ⟨g', 0, none⟩) b b] 36)
      have OF0 := Lib.hid ((repC_opR B5.out (by decide)).kept ((Kept.refl w5).alloc #[.slice (some ⟨g, 0, none⟩) a a, .slice p j c, .slice (some ⟨g', 0, none⟩) b b] 36))
      have OF2 := Lib.hid ((repC_opR G5.out.2 (by decide)).kept ((Kept.refl w5).alloc #[.slice (some ⟨g, 0, none⟩) a a, .slice p j c, .slice (some ⟨g', 0, none⟩) b b] 36))
      have OF1 := Lib.hid (HR.out.kept KF.out)
      have BF := Lib.hid (Blk.fresh w5 #[.slice (some ⟨g, 0, none⟩) a a, .slice p j c, .slice (some ⟨g', 0, none⟩) b b] 36)
      have CC := Lib.hid (ConcatP_any 3 (fun _ => True) (fun i => if i = 0 then some ⟨g, 0, none⟩ else if i = 1 then p else some ⟨g', 0, none⟩) (fun i => if i = 0 then a else if i = 1 then c else b) R w5.heap.size _ (by omega) BF.out.lt
        (fun i hi => by
          rw [BF.out.cell]
          rcases (show i = 0 ∨ i = 1 ∨ i = 2 by omega) with rfl | rfl | rfl
          · rw [hR0, List.length_replicate]; rfl
          · rw [hR1, ← HL.out]; rfl
          · rw [hR2, List.length_replicate]; rfl)
        (by rw [hcl]; exact HAL.out)
        (fun i hi => by
          rcases (show i = 0 ∨ i = 1 ∨ i = 2 by omega) with rfl | rfl | rfl
          · rw [hR0]; exact ⟨OF0.out, (fun e => by cases e), fun ad e => by cases e; rfl⟩
          · rw [hR1]; exact ⟨OF1.out, HN.out, HP0.out⟩
          · rw [hR2]; exact ⟨OF2.out, (fun e => by cases e), fun ad e => by cases e; rfl⟩))
      have LI := Lib.hid (show ∀ r ∈ catP R 3, Lies (Cel (fun _ => True) (w5.alloc (.cells #[.slice (some ⟨g, 0, none⟩) a a, .slice p j c, .slice (some ⟨g', 0, none⟩) b b] 36))) r.1 r.2 from fun r hr => by
        rw [hcat, hR0, hR1, hR2] at hr
        rcases List.mem_append.1 hr with hr | hr
        · rcases List.mem_append.1 hr with hr | hr
          · exact OF0.out.lies r hr
          · exact OF1.out.lies r hr
        · exact OF2.out.lies r hr)
      have HCM := Lib.hid hcm
      obtain ⟨CR, hCR⟩ : ∃ CR, CR = catP R 3 := ⟨_, rfl⟩
      rw [← hCR] at CC LI HCM
      clear hRR hR0 hR1 hR2 hcat hcl hcm hCR
      go_wp2_with fail
      (with_reducible refine CC.out.mono ?_)
      rintro e w6 ⟨v, rfl, ho, hk6⟩
      obtain ⟨p', c', rfl, -, -⟩ := ho.shape
      have O6 := Lib.hid ho
      have K6 := Lib.hid hk6
      clear ho hk6
      go_wp2_with fail
      go_ret
      exact ⟨p', c', CR, rfl, KF.out.trans K6.out, HCM.out, O6.out.opR (fun _ _ => trivial) (fun r hr => (LI.out r hr).kept K6.out)⟩

end Go.Proofs.YtkpagahnmbchjaaGreatDoor
