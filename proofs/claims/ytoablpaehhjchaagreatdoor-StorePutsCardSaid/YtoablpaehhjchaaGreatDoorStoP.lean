import Derived.Test.YtoablpaehhjchaaGreatDoorStoN
import Derived.Test.YtoablpaehhjchaaGreatDoorStoR
import Derived.Lib.Overlaps
import Derived.Laws.Externs
import Derived.Laws.CopyRow
import Derived.Shelf.RegionOpenPlain
import Derived.Test.YtoablpaehhjchaaGreatDoorCosD
import Derived.OwnWalk
import Derived.Laws.OwnMore
namespace Go.Proofs.YtoablpaehhjchaaGreatDoor
open Go.RowKit Cx Sx
set_option linter.unusedSimpArgs false
set_option linter.unusedVariables false

theorem run_copy_rows {P : Program} (w : World) (dT sT ty elem : TypeId) (sz g o dLen dCap : Nat) (a : Addr) (sLen sCap n : Nat) (cur : Array Value) (t : TypeId) (cs : List Value)
    (hu : P.underlying dT = some (.slice elem)) (hs : (P.info? elem).map (·.size) = some sz)
    (hg : w.heap[g]? = some (.cells cur t (0, 0))) (hn : n = Nat.min sLen dLen) (hcs : cs.length = n * sz)
    (hsrc : ∀ j v, cs[j]? = some v → w.cell? (a.add j) = some v) (hfit : o + cs.length ≤ cur.size) (h1 : ∀ v ∈ cs, v.oneCell' = true) :
    (Builtin.copy_ #[dT, sT] ty #[.slice (some ⟨g, o, none⟩) dLen dCap, .slice (some a) sLen sCap]).run P w =
      .ok (goInt n) (w.setRow g (cur.toList.take o ++ cs ++ cur.toList.drop (o + cs.length)).toArray) := by
  have hl := run_loadCells_list (P := P) w a cs hsrc
  have hst := run_storeCells_at P g o t cs 0 cur w hg (by simpa using hfit) h1
  cases hq : P.info? elem with
  | none => simp [hq] at hs
  | some i =>
    have hi : i.size = sz := by simpa [hq] using hs
    simp [Builtin.copy_, run_underlying hu, Builtin.lenOf, Builtin.firstCells, sizeOf, typeInfo, hq, hi, ← hn, ← hcs, hl, hst]

theorem wp_copy_runN {P : Program} (w : World) {o : Oper} {a : Act} {K : Act → World → Prop} {Q : Exit → Act → World → Prop} (d s : Operand) (t t' : TypeId)
    (ho : o.op = .call { callee := .builtin .copy, args := #[d, s], argTypes := #[t, t'] }) (v u : Value) (hd : a.eval d = v) (hs : a.eval s = u) {v' : Value} {w' : World}
    (hr : (Builtin.copy_ #[t, t'] o.type #[v, u]).run P w = .ok v' w') (h : K (a.put o.dst v') w') : o.wp P a w K Q := by
  unfold Oper.wp execOp
  simp only [ho, resolve, invoke, builtin, Sem.run_bind, Sem.run_pure, Result.andThen_ok, List.map_toArray, List.map_cons, List.map_nil, hd, hs, hr]
  exact h
theorem wpList_copy_runN {P : Program} (w : World) {ops : Array Oper} {rest : List Oper} {o : Oper} {a : Act} {Q : Exit → Act → World → Prop} (hgd : o.guard = none) (d s : Operand) (t t' : TypeId)
    (ho : o.op = .call { callee := .builtin .copy, args := #[d, s], argTypes := #[t, t'] }) (v u : Value) (hd : a.eval d = v) (hs : a.eval s = u) {v' : Value} {w' : World}
    (hr : (Builtin.copy_ #[t, t'] o.type #[v, u]).run P w = .ok v' w') (h : wpList P ops Q rest (a.put o.dst v') w') : wpList P ops Q (o :: rest) a w :=
  wpList_plain hgd fun _ hK => wp_copy_runN w d s t t' ho v u hd hs hr (hK _ _ h)
theorem step_copy_runN {P : Program} {ops : Array Oper} {o : Oper} {a : Act} {w : World} {K : Act → World → Prop} {Q : Exit → Act → World → Prop} {E : Prop}
    (hg : o.guard = none) (d x : Operand) (dT sT : TypeId) (hop : o.op = Op.call { callee := Callee.builtin Builtin.copy, args := #[d, x], argTypes := #[dT, sT] })
    (v u : Value) (hd : a.eval d = v) (hx : a.eval x = u) {v' : Value} {w' : World} (hr : (Builtin.copy_ #[dT, sT] o.type #[v, u]).run P w = .ok v' w') (hK : K (a.put o.dst v') w') :
    if Region.wanted o (yielded ops a.tmps) = true then Oper.wp P o a w K Q else E := by
  have hw : Region.wanted o (yielded ops a.tmps) = true := by simp [Region.wanted, hg]
  rw [if_pos hw]
  unfold Oper.wp
  simp [execOp, hop, resolve, invoke, builtin, hd, hx, hr, Result.andThen]
  exact hK

set_option maxRecDepth 100000 in
set_option maxHeartbeats 16000000 in

theorem insN_shift (g vb L i : Nat) (cur : Array Value) (xs ns : List Value) (w : World) (hi : i < L) (hL : L ≤ 1048576) (hvb : vb ≠ g)
    (hg : Blk w g cur 53) (hv : Blk w vb ns.toArray 53) (hns : ns.length = 8) (hcs : cur.size = (L + 1) * 8) (hxs : cur.toList.take (L * 8) = xs)
    (h1x : ∀ v ∈ xs, v.oneCell' = true) (h1n : ∀ v ∈ ns, v.oneCell' = true) :
    Calls Tryz.prog 39 #[.slice (some ⟨g, 0, none⟩) L (L + 1), .int .i64 i, .slice (some ⟨vb, 0, none⟩) 1 1] w fun e w' =>
      e = .returned (.slice (some ⟨g, 0, none⟩) (L + 1) (L + 1)) ∧ w' = w.drew.setRow g (xs.take (i * 8) ++ ns ++ xs.drop (i * 8)).toArray := by
  have hov : ∀ o' lb cb, (callFunc 63 #[.slice (some ⟨vb, 0, none⟩) 1 1, .slice (some ⟨g, o', none⟩) lb cb]).run Tryz.prog w = .ok (.value (.bool false)) w := fun o' lb cb => by
    rw [run_callFunc_extern Tryz.func63 (by kernel_rfl) (by kernel_rfl) (by kernel_rfl) (e := Extern.SlicesOverlaps.overlaps #[44, 44] #[4]) (by kernel_rfl),
      Lib.run_overlaps_apart w 44 4 53 Tryz.underlying44 8 (fun w => by rfl) ⟨vb, 0, none⟩ ⟨g, o', none⟩ 1 1 lb cb hvb 53 53 8 ((L + 1) * 8)
        (by unfold Blk at hv; simp [World.shape?, hv, hns]) (by unfold Blk at hg; simp [World.shape?, hg, hcs]) (by omega) (by unfold Blk at hv; simp [World.frozen?, hv]) (by unfold Blk at hv; simp [World.frozen?, hv])]
    rfl
  have hxl : xs.length = L * 8 := by rw [← hxs, List.length_take, Array.length_toList, hcs]; omega
  have hsz : (Tryz.prog.info? 53).map (·.size) = some 8 := by kernel_rfl
  have hdl : (xs.drop (i * 8)).length = (L - i) * 8 := by rw [List.length_drop, hxl]; omega
  obtain ⟨X1, hX1⟩ : ∃ X1, X1 = (cur.toList.take ((i + 1) * 8) ++ xs.drop (i * 8) ++ cur.toList.drop ((i + 1) * 8 + (xs.drop (i * 8)).length)).toArray := ⟨_, rfl⟩
  have hX1s : X1.size = (L + 1) * 8 := by
    rw [hX1]
    simp only [List.size_toArray, List.length_append, List.length_take, List.length_drop, Array.length_toList, hcs, hxl]
    omega
  have hcx : ∀ k v, xs[k]? = some v → w.cell? ⟨g, k, none⟩ = some v := fun k v hk => by
    rw [hg.cell k, ← Array.getElem?_toList]
    rw [← hxs, List.getElem?_take] at hk
    split at hk
    · exact hk
    · cases hk
  have hcp1 : ∀ ty dc sc, (Builtin.copy_ #[44, 44] ty #[.slice (some ⟨g, (i + 1) * 8, none⟩) (L - i) dc, .slice (some ⟨g, i * 8, none⟩) (L + 1 - i) sc]).run Tryz.prog w.drew = .ok (goInt ((L - i : Nat))) (w.drew.setRow g X1) := fun ty dc sc => by
    rw [hX1]
    exact run_copy_rows w.drew _ _ ty 53 8 g ((i + 1) * 8) (L - i) dc ⟨g, i * 8, none⟩ (L + 1 - i) sc (L - i) cur 53 (xs.drop (i * 8)) Tryz.underlying44 hsz hg
      (by simp only [Nat.min_def]; split <;> omega) hdl (fun j v hj => by rw [Addr.add_lit]; exact hcx (i * 8 + j) v (by rwa [List.getElem?_drop] at hj)) (by rw [hdl, hcs]; omega) (fun v hv => h1x v (List.mem_of_mem_drop hv))
  have hcp2 : ∀ W, W.heap[g]? = some (.cells X1 53 (0, 0)) → W.heap[vb]? = w.heap[vb]? → ∀ ty dc, (Builtin.copy_ #[44, 44] ty #[.slice (some ⟨g, i * 8, none⟩) (L + 1 - i) dc, .slice (some ⟨vb, 0, none⟩) 1 1]).run Tryz.prog W = .ok (goInt 1) (W.setRow g (xs.take (i * 8) ++ ns ++ xs.drop (i * 8)).toArray) := fun W hW hV ty dc => by
    have hv' : Blk W vb ns.toArray 53 := hV.trans hv
    have z := run_copy_rows (P := Tryz.prog) W 44 44 ty 53 8 g (i * 8) (L + 1 - i) dc ⟨vb, 0, none⟩ 1 1 1 X1 53 ns Tryz.underlying44 hsz hW
      (by simp only [Nat.min_def]; split <;> omega) (by rw [hns]) (fun j v hj => by rw [Addr.add_lit, Nat.zero_add, hv'.cell j]; simpa using hj) (by rw [hns, hX1s]; omega) h1n
    rw [z]
    congr 2
    rw [hX1, hns]
    congr 1
    have e1 : ∀ (A B C : List Value), A.length = (i + 1) * 8 → (A ++ B ++ C).take (i * 8) = A.take (i * 8) := fun A B C hA => by
      rw [List.append_assoc, List.take_append_of_le_length (by omega)]
    have e2 : ∀ (A B : List Value), A.length = (i + 1) * 8 → (A ++ B ++ []).drop (i * 8 + 8) = B := fun A B hA => by
      rw [List.append_nil, List.drop_append_of_le_length (by omega), List.drop_of_length_le (by omega), List.nil_append]
    have eA : (cur.toList.take ((i + 1) * 8)).length = (i + 1) * 8 := by rw [List.length_take, Array.length_toList, hcs]; omega
    have eN : cur.toList.drop ((i + 1) * 8 + (xs.drop (i * 8)).length) = [] := List.drop_of_length_le (by rw [Array.length_toList, hcs, hdl]; omega)
    have eT : (cur.toList.take ((i + 1) * 8)).take (i * 8) = xs.take (i * 8) := by
      rw [← hxs, List.take_take, List.take_take]; congr 1; simp only [Nat.min_def]; split <;> split <;> omega
    simp only [List.toList_toArray]
    rw [eN, e1 _ _ _ eA, eT, e2 _ _ eA]
  have CP1 := Lib.hid hcp1
  have CP2 := Lib.hid hcp2
  have HG := Lib.hid hg
  have CP3 := Lib.hid (hcp2 (w.drew.setRow g X1) (setRow_heap w.drew _ _ _ _ _ hg) (setRow_other _ _ _ _ hvb))
  have hw1 : IntKind.i64.wrap ((i : Int) + 1) = (i : Int) + 1 := by rw [IntKind.wrap_i64]; omega
  have hb1 : (0 : Int) ≤ (i : Int) + 1 := by omega
  have hin : i ≤ L := by omega
  have htn : ((i : Int) + 1).toNat = i + 1 := by omega
  have hb2 : ¬ (L + 1 = i + 1) := by omega
  have hb3 : (i : Int) ≤ (L : Int) + 1 := by omega
  have hb5 : i ≤ L + 1 := by omega
  have hb4 : ¬ (L + 1 = i) := by omega
  have hb6 : ¬ (L = i) := by omega
  have mixed : Tryz.prog.follows .mixedOrders = true := by kernel_rfl
  have hz2 : ¬ ((i : Int) = (L : Int)) := by omega
  clear hcp1 hcp2 hcx hX1s hdl hxl h1x h1n hX1
  go_enter Tryz.func39, Tryz.ntmps39
  go_wp2_with (simp only [hov])
  go_region_law_o (refine step_copy_runN rfl _ _ 44 44 rfl (.slice (some ⟨g, (i + 1) * 8, none⟩) (L - i) (L - i)) (.slice (some ⟨g, i * 8, none⟩) (L + 1 - i) (L + 1 - i)) (by simp [Act.eval, Act.put]) (by simp [Act.eval, Act.put]) (CP1.out _ _ _) ?_)
  go_upto_region 16 with fail
  go_wp2_with (refine wpList_copy_runN _ rfl _ _ 44 44 rfl (.slice (some ⟨g, i * 8, none⟩) (L + 1 - i) (L + 1 - i)) (.slice (some ⟨vb, 0, none⟩) 1 1) (by rfl) (by rfl) (CP3.out _ _) ?_)
  go_ret
  exact ⟨rfl, by rw [setRow_setRow, List.append_assoc]⟩

set_option maxRecDepth 100000 in
set_option maxHeartbeats 16000000 in

theorem insN_end (N g vb : Nat) (rs : NRow) (x : Nm) (hx : Hd) (w : World) (hL : rs.length ≤ 1048576) (hN : N ≤ w.heap.size)
    (ho : OwnN 53 w N (.slice (some ⟨g, 0, none⟩) rs.length (rs.length + 1)) rs) (hv : Blk w vb (cells8 x hx).toArray 53) :
    Calls Tryz.prog 39 #[.slice (some ⟨g, 0, none⟩) rs.length (rs.length + 1), .int .i64 rs.length, .slice (some ⟨vb, 0, none⟩) 1 1] w fun e w' =>
      ∃ g' cap, e = .returned (.slice (some ⟨g', 0, none⟩) (rs.length + 1) cap) ∧ OwnN 53 w' N (.slice (some ⟨g', 0, none⟩) (rs.length + 1) cap) (rs ++ [(x, hx)]) ∧ w.grownBy w' (some g) := by
  have HO := Lib.hid ho
  have HV := Lib.hid hv
  have hnl : rs.length ≤ rs.length := Nat.le_refl _
  clear ho hv
  go_enter Tryz.func39, Tryz.ntmps39
  go_wp2_with (at_builtin; refine wpList_app_rows 53 44 Tryz.underlying44 (by kernel_rfl) (by rfl) _ _ (by rfl) N _ rs [(x, hx)] (by rfl) HO.out vb (cells8 x hx).toArray (by simp [flatN]) HV.out 1 rfl (by decide) (by rfl) hN (by omega) ?_; intro g' cap w' h1 h2 h3; have H1 := Lib.hid h1; have H2 := Lib.hid h2; clear h1 h2)
  go_ret
  exact ⟨_, _, rfl, H1.out, H2.out⟩

end Go.Proofs.YtoablpaehhjchaaGreatDoor

namespace Go.Proofs.YtoablpaehhjchaaGreatDoor
open Go.RowKit Cx Sx
set_option linter.unusedSimpArgs false
set_option linter.unusedVariables false

theorem flatN_app (a b : NRow) : flatN (a ++ b) = flatN a ++ flatN b := by unfold flatN; rw [List.flatMap_append]
theorem flatN_take (rs : NRow) (i : Nat) (hi : i ≤ rs.length) : (flatN rs).take (i * 8) = flatN (rs.take i) ∧ (flatN rs).drop (i * 8) = flatN (rs.drop i) := by
  have e : flatN rs = flatN (rs.take i) ++ flatN (rs.drop i) := by rw [← flatN_app, List.take_append_drop]
  have hl : (flatN (rs.take i)).length = i * 8 := by rw [flatN_len, List.length_take]; congr 1; omega
  rw [e]
  exact ⟨List.take_left' hl, List.drop_left' hl⟩
theorem flatN_ins (rs : NRow) (i : Nat) (hi : i ≤ rs.length) (r : Nm × Hd) : flatN (rs.take i ++ r :: rs.drop i) = (flatN rs).take (i * 8) ++ cells8 r.1 r.2 ++ (flatN rs).drop (i * 8) := by
  rw [(flatN_take rs i hi).1, (flatN_take rs i hi).2, flatN_app, List.append_assoc]; rfl
theorem flatN_one (rs : NRow) : ∀ v ∈ flatN rs, v.oneCell' = true := fun v hv => by
  unfold flatN at hv
  obtain ⟨r, _, hr⟩ := List.mem_flatMap.1 hv
  exact oneCell8 _ _ v hr

theorem flat_setN (x : Ob) (h : Hd) : ∀ (rows : NRow) (i : Nat) (a b : Int), (∀ hi : i < rows.length, rows[i].1.n = a ∧ rows[i].1.g = b) →
    flatN (rows.set i (⟨a, b, x⟩, h)) = ((((((flatN rows).set (i * 8 + 2) (.int .i64 x.k)).set (i * 8 + 3) (.int .i64 x.n)).set (i * 8 + 4) (.int .i64 x.f)).set (i * 8 + 5) (.string x.s)).set (i * 8 + 6) (.slice h.p x.l.length h.c)).set (i * 8 + 7) (.slice h.q x.d.length h.e)
  | [], _, _, _, _ => by simp [flatN]
  | r :: t, 0, a, b, he => by
    obtain ⟨rfl, rfl⟩ := he (by simp)
    rfl
  | r :: t, i + 1, a, b, he => by
    have ih := flat_setN x h t i a b (fun hi => he (by simpa using hi))
    have e1 : ∀ q, (i + 1) * 8 + q = i * 8 + q + 1 + 1 + 1 + 1 + 1 + 1 + 1 + 1 := fun q => by omega
    rw [e1 2, e1 3, e1 4, e1 5, e1 6, e1 7]
    show cells8 r.1 r.2 ++ flatN (t.set i (⟨a, b, x⟩, h)) = _
    rw [ih]
    rfl

section
variable {T : TypeId}
theorem OwnN.put {N : Nat} {w : World} {g cap : Nat} {rs : NRow} (h : OwnN T w N (.slice (some ⟨g, 0, none⟩) rs.length cap) rs) (i : Nat) (hi : i < rs.length) (x : Ob) (d : Hd) :
    OwnN T ((((((w.setCell ⟨g, i * 8 + 2, none⟩ (.int .i64 x.k)).setCell ⟨g, i * 8 + 3, none⟩ (.int .i64 x.n)).setCell ⟨g, i * 8 + 4, none⟩ (.int .i64 x.f)).setCell ⟨g, i * 8 + 5, none⟩ (.string x.s)).setCell ⟨g, i * 8 + 6, none⟩ (.slice d.p x.l.length d.c)).setCell ⟨g, i * 8 + 7, none⟩ (.slice d.q x.d.length d.e)) N (.slice (some ⟨g, 0, none⟩) rs.length cap) (rs.set i (⟨rs[i].1.n, rs[i].1.g, x⟩, d)) ∧
    w.grownBy ((((((w.setCell ⟨g, i * 8 + 2, none⟩ (.int .i64 x.k)).setCell ⟨g, i * 8 + 3, none⟩ (.int .i64 x.n)).setCell ⟨g, i * 8 + 4, none⟩ (.int .i64 x.f)).setCell ⟨g, i * 8 + 5, none⟩ (.string x.s)).setCell ⟨g, i * 8 + 6, none⟩ (.slice d.p x.l.length d.c)).setCell ⟨g, i * 8 + 7, none⟩ (.slice d.q x.d.length d.e)) (some g) := by
  have h0 : w.ownsRow N T 8 (.slice (some ⟨g, 0, none⟩) rs.length cap) rs.length (flatN rs) := h
  have s1 := h0.stored (i * 8 + 2) (.int .i64 x.k)
  have s2 := s1.1.stored (i * 8 + 3) (.int .i64 x.n)
  have s3 := s2.1.stored (i * 8 + 4) (.int .i64 x.f)
  have s4 := s3.1.stored (i * 8 + 5) (.string x.s)
  have s5 := s4.1.stored (i * 8 + 6) (.slice d.p x.l.length d.c)
  have s6 := s5.1.stored (i * 8 + 7) (.slice d.q x.d.length d.e)
  have hf := flat_setN x d rs i rs[i].1.n rs[i].1.g (fun _ => ⟨rfl, rfl⟩)
  have tr : ∀ {a b c : World}, a.grownBy b (some g) → b.grownBy c (some g) → a.grownBy c (some g) := fun g1 g2 =>
    ⟨g2.os.trans g1.os, g2.tape.trans g1.tape, g2.output.trans g1.output, Nat.le_trans g1.size g2.size, fun k hk hne => (g2.block k (Nat.lt_of_lt_of_le hk g1.size) hne).trans (g1.block k hk hne)⟩
  refine ⟨?_, tr (tr (tr (tr (tr s1.2 s2.2) s3.2) s4.2) s5.2) s6.2⟩
  unfold OwnN
  rw [hf, List.length_set]
  exact s6.1
theorem OwnN.frozen {N : Nat} {w : World} {g cap : Nat} {rs : NRow} (h : OwnN T w N (.slice (some ⟨g, 0, none⟩) rs.length cap) rs) (j : Nat) : w.frozen? ⟨g, j, none⟩ = false :=
  World.ownsRow.frozenAt h j
end

set_option maxHeartbeats 1000000 in

theorem Ins_any (N g vb i : Nat) (rs : NRow) (x : Nm) (hx : Hd) (w : World) (hL : rs.length ≤ 1048576) (hN : N ≤ w.heap.size) (hvb : vb ≠ g) (hi : i ≤ rs.length)
    (ho : OwnN 53 w N (.slice (some ⟨g, 0, none⟩) rs.length (rs.length + 1)) rs) (hv : Blk w vb (cells8 x hx).toArray 53) :
    Calls Tryz.prog 39 #[.slice (some ⟨g, 0, none⟩) rs.length (rs.length + 1), .int .i64 i, .slice (some ⟨vb, 0, none⟩) 1 1] w fun e w' =>
      ∃ g' cap, e = .returned (.slice (some ⟨g', 0, none⟩) (rs.length + 1) cap) ∧ OwnN 53 w' N (.slice (some ⟨g', 0, none⟩) (rs.length + 1) cap) (rs.take i ++ (x, hx) :: rs.drop i) ∧ w.grownBy w' (some g) := by
  rcases Nat.lt_or_ge i rs.length with h | h
  · obtain ⟨g', cap', cur, hv', hb, hg, hc1, hc2, hcs, hxs⟩ : ∃ g' cap' cur, (Value.slice (some ⟨g, 0, none⟩) rs.length (rs.length + 1)) = .slice (some ⟨g', 0, none⟩) rs.length cap' ∧ N ≤ g' ∧ w.heap[g']? = some (.cells cur 53 (0, 0)) ∧ rs.length ≤ cap' ∧ cap' ≤ maxLen ∧ cur.size = cap' * 8 ∧ cur.toList.take (rs.length * 8) = flatN rs := by
      rcases ho.2 with ⟨h0, _⟩ | h1
      · cases h0
      · exact h1
    obtain ⟨rfl, rfl⟩ : g = g' ∧ rs.length + 1 = cap' := by injection hv' with e1 _ e3; injection e1 with e1; injection e1 with e1 _; exact ⟨e1, e3⟩
    refine (insN_shift g vb rs.length i cur (flatN rs) (cells8 x hx) w h hL hvb hg hv rfl hcs hxs (flatN_one rs) (oneCell8 _ _)).mono ?_
    rintro e w' ⟨rfl, rfl⟩
    have hlen : (flatN (rs.take i ++ (x, hx) :: rs.drop i)).length = (rs.length + 1) * 8 := by
      rw [flatN_len]; congr 1; simp only [List.length_append, List.length_cons, List.length_take, List.length_drop]; omega
    refine ⟨g, rs.length + 1, rfl, ?_, ⟨rfl, rfl, rfl, by simp, fun k hk hne => setRow_other _ _ _ _ (fun e => hne (by rw [e]))⟩⟩
    rw [← flatN_ins rs i hi (x, hx)]
    have hlr : (rs.take i ++ (x, hx) :: rs.drop i).length = rs.length + 1 := by simp only [List.length_append, List.length_cons, List.length_take, List.length_drop]; omega
    unfold OwnN
    rw [hlr]
    refine ⟨hlen, .inr ⟨g, rs.length + 1, _, rfl, hb, setRow_heap _ _ _ _ _ _ hg, Nat.le_refl _, hc2, ?_, ?_⟩⟩
    · simpa using hlen
    · rw [List.toList_toArray]
      exact List.take_of_length_le (by omega)
  · obtain rfl : i = rs.length := by omega
    rw [List.take_length, List.drop_length]
    exact insN_end N g vb rs x hx w hL hN ho hv

section
variable {P : Program} {ops : Array Oper} {o : Oper} {a : Act} {K : Act → World → Prop} {Q : Exit → Act → World → Prop} {E : Prop}

theorem step_make_own {w : World} (g : Nat) (hgs : w.heap.size = g) (hg : o.guard = none) (l c : Operand) (t : TypeId) (hop : o.op = Op.makeSlice t l c)
    (base : Nat) (e : TypeId) (i : TypeInfo) (z : Value) (size : Nat) (h1 : P.underlying t = some (.slice e)) (h2 : P.info? e = some i) (h3 : i.zero = some z) (h4 : i.size = size)
    (kl kc : IntKind) (C : Int) (n : Nat) (hl : a.eval l = .int kl 0) (hc : a.eval c = .int kc C) (hC : C = (n : Int)) (b2 : i.bytes * n ≤ 281474976710656) (b3 : n ≤ maxLen) (b4 : base ≤ w.heap.size)
    (hK : ∀ w', w'.ownsRow base e size (.slice (some ⟨g, 0, none⟩) 0 n) 0 [] → w.grownBy w' none → K (a.put o.dst (.slice (some ⟨g, 0, none⟩) 0 n)) w') :
    if Region.wanted o (yielded ops a.tmps) = true then Oper.wp P o a w K Q else E := by
  have hw : Region.wanted o (yielded ops a.tmps) = true := by simp [Region.wanted, hg]
  rw [if_pos hw]
  obtain ⟨w', hrun, r1, r2⟩ := run_make_own (P := P) w base t e i z size h1 h2 h3 h4 kl kc n b2 b3 b4
  rw [hgs] at hrun r1
  subst hC
  unfold Oper.wp
  simp [execOp, hop, hl, hc, hrun, Result.andThen]
  exact hK w' r1 r2
end

theorem step_app_fits_rows (T TS : TypeId) (hu : Tryz.prog.underlying TS = some (.slice T)) (hinfo : (Tryz.prog.info? T).map (fun i => (i.zero, i.size, i.bytes)) = some (some (.agg #[.int .i64 0, .int .i64 0, .int .i64 0, .int .i64 0, .int .i64 0, .string ⟨#[]⟩, .slice none 0 0, .slice none 0 0]), 8, 104))
    {ops : Array Oper} {o : Oper} {a : Act} {K : Act → World → Prop} {Q : Exit → Act → World → Prop} {E : Prop} (hgd : o.guard = none) (s x : Operand)
    (ho : o.op = .call { callee := .builtin .append, args := #[s, x], argTypes := #[TS, TS] })
    {W : World} (N g cap : Nat) (hs : a.eval s = .slice (some ⟨g, 0, none⟩) 0 cap) (hown : W.ownsRow N T 8 (.slice (some ⟨g, 0, none⟩) 0 cap) 0 []) (p : Option Addr) (rs : NRow) (c m : Nat) (hm : rs.length = m) (hnk : NmK W p rs) (hnil : p = none → c = 0)
    (hx : a.eval x = .slice p m c) (hroom : m ≤ cap)
    (h : ∀ w', OwnN T w' N (.slice (some ⟨g, 0, none⟩) m cap) rs → W.grownBy w' (some g) → K (a.put o.dst (.slice (some ⟨g, 0, none⟩) m cap)) w') :
    if Region.wanted o (yielded ops a.tmps) = true then Oper.wp Tryz.prog o a W K Q else E := by
  obtain ⟨i0, hi, hz0, hz1, hz2⟩ := info_parts hinfo
  subst hm
  have hw : Region.wanted o (yielded ops a.tmps) = true := by simp [Region.wanted, hgd]
  rw [if_pos hw]
  cases p with
  | none =>
    have he : rs = [] := by
      cases rs with
      | nil => rfl
      | cons e r =>
        obtain ⟨k, o, hp, _⟩ := hnk 0 (by simp)
        cases hp
    subst he
    have hc := hnil rfl
    subst hc
    have hrun := run_append_owned_none (P := Tryz.prog) (w := W) N TS o.type T i0 8 hu hi _ 0 [] hown
    simp only [List.length_nil] at hx
    unfold Oper.wp
    simp [execOp, ho, resolve, invoke, builtin, hs, hx, hrun, Result.andThen]
    exact h W hown (World.grownBy.refl W _)
  | some ad =>
    have hcs : ∀ j u, (flatN rs)[j]? = some u → W.cell? (ad.add j) = some u := fun j u hj => by
      have hj0 : j < rs.length * 8 := by
        have := (List.getElem?_eq_some_iff.1 hj).1
        rwa [flatN_len] at this
      have hq : j / 8 < rs.length := by omega
      obtain ⟨b, off, hp, -, hc⟩ := hnk (j / 8) hq
      obtain rfl := Option.some.inj hp
      rw [Addr.add_lit]
      have h1 : (flatN rs)[j / 8 * 8 + j % 8]? = some u := by rw [Nat.div_add_mod']; exact hj
      rw [flatN_get rs _ _ hq (by omega)] at h1
      have h2 := hc (j % 8) u h1
      have e : off + j / 8 * 8 + j % 8 = off + j := by omega
      rwa [e] at h2
    obtain ⟨w', hrun, r1, r2⟩ := run_append_fits (P := Tryz.prog) W N TS o.type T i0 8 hu hi hz1 g 0 cap [] hown ad rs.length c (flatN rs) (flatN_len rs) hcs (flatN_one rs) (by omega)
    simp only [Nat.zero_add, List.nil_append] at hrun r1
    unfold Oper.wp
    simp [execOp, ho, resolve, invoke, builtin, hs, hx, hrun, Result.andThen]
    exact h w' r1 r2

end Go.Proofs.YtoablpaehhjchaaGreatDoor

namespace Go.Proofs.YtoablpaehhjchaaGreatDoor
open Go.RowKit Cx Sx
set_option linter.unusedSimpArgs false
set_option linter.unusedVariables false

theorem splaceAhead_any (P : Nat → Prop) (l : List Nm) (p : Option Addr) (c : Nat) (n : Int) (w : World) (h : NmR P w p l) (j : Nat) (hj : j = l.findIdx (gtN n)) :
    Calls Tryz.prog 40 #[.slice p l.length c, .int .i64 n] w fun e w' => e = .returned (.int .i64 j) ∧ Kept w w' := by
  have hmf : ∀ (fn : Fn) (first cap : Array Value) (w : World), (Instr.makeFunc fn first cap).run Tryz.prog w = .ok (.func fn first cap) w := fun _ _ _ _ => rfl
  have k1 := (Kept.refl w).alloc #[.int .i64 n] 3
  obtain ⟨X, hX⟩ : ∃ X, X = idxN (gtN n) l := ⟨_, rfl⟩
  have CI := Lib.hid (IndexFuncN_any P _ _ _ ent_ahead1 l p c _ (h.kept k1) (ahead1_asks n _ _ (Blk.fresh w _ _)) X hX)
  have K1 := Lib.hid k1
  have hB := h.len
  unfold maxLen at hB
  have hle : l.findIdx (gtN n) ≤ l.length := List.findIdx_le_length
  clear h k1
  go_enter Tryz.func40, Tryz.ntmps40
  rcases Nat.lt_or_ge (l.findIdx (gtN n)) l.length with hlt | hge
  · have e : X = (j : Int) := by rw [hX, hj]; unfold idxN; rw [if_pos hlt]
    subst e
    have j0 : ¬ (j : Int) < 0 := by omega
    clear hX hj
    go_wp2_with fail
    (with_reducible refine CI.out.mono ?_)
    rintro e w2 ⟨rfl, hk2⟩
    go_wp2_with fail
    go_ret
    exact ⟨rfl, K1.out.trans hk2⟩
  · have e : X = -1 := by rw [hX]; unfold idxN; rw [if_neg (by omega)]
    subst e
    have ej : j = l.length := by omega
    subst ej
    clear hX hj
    go_wp2_with fail
    (with_reducible refine CI.out.mono ?_)
    rintro e w2 ⟨rfl, hk2⟩
    go_wp2_with fail
    go_ret
    exact ⟨rfl, K1.out.trans hk2⟩

theorem put_done (w W : World) (l : List Nm) (n : Int) (o : Ob) (g cap M : Nat) (rs : NRow) (hO : OwnN 53 W (w.heap.size + 1 + 1 + 1) (.slice (some ⟨g, 0, none⟩) M cap) rs)
    (hl : rs.length = M ∧ ∀ r ∈ rs, Lies (Cel (fun _ => True) w) r.1.o r.2) (hk : Kept w W) (hm : M ≤ maxLen) (he : rs.map (·.1) = putL l n o) :
    NmR (fun b => b ≠ w.heap.size + 1 + 1) W (some ⟨g, 0, none⟩) (putL l n o) := by
  obtain ⟨rfl, hl⟩ := hl
  rw [← he]
  exact hO.row.nmR (P := fun b => b ≠ w.heap.size + 1 + 1) (fun b off e => by have e1 : g = b := (by have e2 := Option.some.inj e; injection e2); have := (hO.lt g rfl).1; omega)
    (fun r hr => (hl r hr).keep fun b _ hlt => ⟨by omega, hk.below.block b hlt⟩) hm

set_option maxRecDepth 100000 in
set_option maxHeartbeats 16000000 in
theorem Put_any (l : List Nm) (p : Option Addr) (c : Nat) (t : Ob) (ht : Hd) (n : Int) (o : Ob) (ho : Hd) (w : World) (h : NmR (fun _ => True) w p l) (hnil : p = none → c = 0) (hL : l.length ≤ 1048000)
    (lo : Lies (Cel (fun _ => True) w) o ho) (n1 : ¬ n < 1) (n2 : ¬ 4096 ≤ n) :
    Calls Tryz.prog 17 #[fileV l p c t ht, .int .i64 n, objV o ho] w fun e w' => ∃ p' c', e = .returned (.tuple #[fileV (putL l n o) p' c' t ht, .int .i64 0]) ∧ Kept w w' ∧ NmR (fun _ => True) w' p' (putL l n o) := by
  obtain ⟨rs, hrs, hnk, hli⟩ := h.rows
  have HRS := Lib.hid hrs
  have HNK := Lib.hid hnk
  have HLI := Lib.hid hli
  have LO := Lib.hid lo
  have HNIL := Lib.hid hnil
  have hLen : rs.length = l.length := by rw [← hrs, List.length_map]
  have HLE := Lib.hid hLen
  have n3 : n < 4096 := by omega
  have n4 : 1 ≤ n := by omega
  obtain ⟨i0, hi, hz0, hz1, hz2⟩ := info_parts info_nm
  have HI0 := Lib.hid hi
  have HZ0 := Lib.hid hz0
  have HZ1 := Lib.hid hz1
  have HZ2 := Lib.hid hz2
  have H1 := Lib.hid (In.fresh' (k := w.heap.size + 1 + 1) (In.fresh' (k := w.heap.size + 1) (In.fresh (In.start w) #[.slice p l.length c, .int .i64 t.k, .int .i64 t.n, .int .i64 t.f, .string t.s, .slice ht.p t.l.length ht.c, .slice ht.q t.d.length ht.e] 46) #[.int .i64 o.k, .int .i64 o.n, .int .i64 o.f, .string o.s, .slice ho.p o.l.length ho.c, .slice ho.q o.d.length ho.e] 39 (by simp)) #[.slice none 0 0, .int .i64 0, .int .i64 0, .int .i64 0, .string ⟨#[]⟩, .slice none 0 0, .slice none 0 0] 46 (by simp))
  have NG := Lib.hid (show ∀ k, some (w.heap.size + 1 + 1 + 1) = some k → w.heap.size ≤ k ∧ ∀ x ∈ ([(w.heap.size + 1 + 1, #[.slice none 0 0, .int .i64 0, .int .i64 0, .int .i64 0, .string ⟨#[]⟩, .slice none 0 0, .slice none 0 0], 46), (w.heap.size + 1, #[.int .i64 o.k, .int .i64 o.n, .int .i64 o.f, .string o.s, .slice ho.p o.l.length ho.c, .slice ho.q o.d.length ho.e], 39), (w.heap.size, #[.slice p l.length c, .int .i64 t.k, .int .i64 t.n, .int .i64 t.f, .string t.s, .slice ht.p t.l.length ht.c, .slice ht.q t.d.length ht.e], 46)] : BlkList), x.1 ≠ k from fun k e => by
    obtain rfl := Option.some.inj e
    refine ⟨by omega, fun x hx => ?_⟩
    simp only [List.mem_cons, List.not_mem_nil, or_false] at hx
    rcases hx with rfl | rfl | rfl <;> simp only [] <;> omega)
  have hw1 : IntKind.i64.wrap ((l.length : Int) + 1) = (l.length : Int) + 1 := by rw [IntKind.wrap_i64]; omega
  clear h hrs hnk hli lo hnil hi hz0 hz1 hz2 hLen
  unfold fileV objV
  obtain ⟨f0, f1, f2, f3, f4, f5, f6⟩ := (H1.out.mem (List.mem_cons_of_mem _ (List.mem_cons_of_mem _ List.mem_cons_self))).cells7
  have F0 := Lib.hid f0
  go_enter Tryz.func17, Tryz.ntmps17
  go_upto_region 3 with fail
  refine wp_region_held_drew (S := (fun w' => w'.cell? ⟨w.heap.size, 0, none⟩ = some (.slice p l.length c))) (by kernel_rfl) ?_ (fun hHeld => ?_)
  · exact F0.out
  refine wpAnyH_take (i := 0) (oi := ⟨some 17, _, _, _, _, _⟩) (v := ?_) rfl (by kernel_rfl) (by kernel_rfl) (by kernel_rfl) (fun _ _ _ h => h) (Or.inl ⟨by rfl, ?_⟩) (by assumption) ?_
  rotate_left 1
  · (intro w hSw; (try dsimp only at hSw); go_simp <;> with_reducible rfl)
  try simp only [Act.put, List.setIfInBounds_toArray, List.set_cons_zero, List.set_cons_succ]
  refine wpAnyH_take (i := 1) (oi := ⟨some 18, _, _, _, _, _⟩) (v := ?_) rfl (by kernel_rfl) (by kernel_rfl) (by kernel_rfl) (fun _ _ _ h => h) (Or.inl ⟨by rfl, ?_⟩) (by assumption) ?_
  rotate_left 1
  · (intro w hSw; (try dsimp only at hSw); go_simp <;> with_reducible rfl)
  try simp only [Act.put, List.setIfInBounds_toArray, List.set_cons_zero, List.set_cons_succ]
  refine wpAnyH_take (i := 2) (oi := ⟨some 19, _, _, _, _, _⟩) (v := ?_) rfl (by kernel_rfl) (by kernel_rfl) (by kernel_rfl) (fun _ _ _ h => h) (Or.inl ⟨by rfl, ?_⟩) (by assumption) ?_
  rotate_left 1
  · (intro w hSw; (try dsimp only at hSw); go_simp <;> with_reducible rfl)
  try simp only [Act.put, List.setIfInBounds_toArray, List.set_cons_zero, List.set_cons_succ]
  refine wpAnyH_take (i := 3) (oi := ⟨some 20, _, _, _, _, _⟩) (v := ?_) rfl (by kernel_rfl) (by kernel_rfl) (by kernel_rfl) (fun _ _ _ h => h) (Or.inl ⟨by rfl, ?_⟩) (by assumption) ?_
  rotate_left 1
  · (intro w hSw; (try dsimp only at hSw); go_simp <;> with_reducible rfl)
  try simp only [Act.put, List.setIfInBounds_toArray, List.set_cons_zero, List.set_cons_succ]
  refine wpAnyH_take (i := 5) (oi := ⟨some 22, _, _, _, _, _⟩) (v := ?_) rfl (by kernel_rfl) (by kernel_rfl) (by kernel_rfl) (fun _ _ _ h => h) (Or.inl ⟨by rfl, ?_⟩) (by assumption) ?_
  rotate_left 1
  · (intro w hSw; (try dsimp only at hSw); go_simp <;> with_reducible rfl)
  try simp only [Act.put, List.setIfInBounds_toArray, List.set_cons_zero, List.set_cons_succ]
  refine wpAnyH_take (i := 6) (oi := ⟨some 23, _, _, _, _, _⟩) (v := ?_) rfl (by kernel_rfl) (by kernel_rfl) (by kernel_rfl) (fun _ _ _ h => h) (Or.inl ⟨by rfl, ?_⟩) (by assumption) ?_
  rotate_left 1
  · (intro w hSw; (try dsimp only at hSw); go_simp <;> with_reducible rfl)
  try simp only [Act.put, List.setIfInBounds_toArray, List.set_cons_zero, List.set_cons_succ]
  refine wpAnyH_ready (rs := [4]) (by kernel_rfl) (by simp) ?_
  refine AllReadyH.cons (o := ⟨some 21, _, _, _, _, _⟩) rfl (fun K hK => ?_) AllReadyH.nil
  refine step_make_own (w.heap.size + 1 + 1 + 1) (by simp) (by rfl) _ _ 44 (by rfl) (w.heap.size + 1 + 1 + 1) 53 i0 _ 8 Tryz.underlying44 HI0.out HZ0.out HZ1.out .i64 .i64 _ (l.length + 1) (by rfl) (by rfl) (by omega) (by rw [HZ2.out]; omega) (by unfold maxLen; omega) (by simp) ?_
  intro w3 own3 hg3
  have I3 := Lib.hid (H1.out.drew.gbOwn hg3 (fun _ e => by cases e))
  have O3 := Lib.hid own3
  clear own3 hg3 f0 f1 f2 f3 f4 f5 f6 F0
  refine hK.out _ _ ?_ (fun hHeld => ?_)
  · exact ((I3.out.mem (List.mem_cons_of_mem _ (List.mem_cons_of_mem _ List.mem_cons_self))).cells7).1
  clear hK K
  try simp only [Act.put, List.setIfInBounds_toArray, List.set_cons_zero, List.set_cons_succ]
  refine wpAnyH_ready (rs := [7]) (by kernel_rfl) (by simp) ?_
  refine AllReadyH.cons (o := ⟨some 24, _, _, _, _, _⟩) rfl (fun K hK => ?_) AllReadyH.nil
  refine step_app_fits_rows 53 44 Tryz.underlying44 (by kernel_rfl) (by rfl) _ _ (by rfl) (w.heap.size + 1 + 1 + 1) (w.heap.size + 1 + 1 + 1) (l.length + 1) (by rfl) O3.out p rs c l.length HLE.out (HNK.out.kept (In.k I3.out)) HNIL.out (by rfl) (by omega) ?_
  intro w4 own4 hg4
  have I4 := Lib.hid (I3.out.gbOwn hg4 NG.out)
  have O4 := Lib.hid own4
  have hz4 : w.heap.size + 1 + 1 + 1 < w4.heap.size := (own4.lt _ rfl).2
  clear own4 hg4
  refine hK.out _ _ ?_ (fun hHeld => ?_)
  · exact ((I4.out.mem (List.mem_cons_of_mem _ (List.mem_cons_of_mem _ List.mem_cons_self))).cells7).1
  clear hK K
  try simp only [Act.put, List.setIfInBounds_toArray, List.set_cons_zero, List.set_cons_succ]
  refine wpAnyH_take (i := 8) (oi := ⟨some 8, _, _, _, _, _⟩) (v := ?_) rfl (by kernel_rfl) (by kernel_rfl) (by kernel_rfl) (fun _ _ _ h => h) (Or.inl ⟨by rfl, ?_⟩) (by assumption) ?_
  rotate_left 1
  · (intro w hSw; (try dsimp only at hSw); go_simp <;> with_reducible rfl)
  try simp only [Act.put, List.setIfInBounds_toArray, List.set_cons_zero, List.set_cons_succ]
  refine wpAnyH_done (by kernel_rfl) ?_ _
  clear hHeld
  have NM4 := Lib.hid (show NmR (fun _ => True) w4 (some ⟨w.heap.size + 1 + 1 + 1, 0, none⟩) l from by
    have o4 := O4.out
    rw [← HLE.out] at o4
    have z := o4.row.nmR (P := fun _ => True) (fun _ _ _ => trivial) (fun r hr => (HLI.out r hr).kept (In.k I4.out)) (by have := HLE.out; unfold maxLen; omega)
    rwa [HRS.out] at z)
  obtain ⟨X, hX⟩ : ∃ X, X = idxN (eqN n) l := ⟨_, rfl⟩
  have CP := Lib.hid (splace_any (fun _ => True) l (some ⟨w.heap.size + 1 + 1 + 1, 0, none⟩) (l.length + 1) n w4 NM4.out X hX)
  rcases idxN_bd (eqN n) l with hneg | ⟨i, hi, hie⟩
  · have m1 : X < 0 := by omega
    have m2 : ¬ (0 ≤ X) := by omega
    have HNO := Lib.hid (show ¬ l.findIdx (eqN n) < l.length from fun hh => by unfold idxN at hneg; rw [if_pos hh] at hneg; omega)
    clear hX hneg
    go_wp2_with fail
    (with_reducible refine CP.out.mono ?_)
    rintro e w5 ⟨rfl, hk5⟩
    have I5 := Lib.hid (I4.out.kept hk5)
    have O5 := Lib.hid (O4.out.kept hk5)
    have hz5 : w.heap.size + 1 + 1 + 1 < w5.heap.size := by have := Below.size hk5; omega
    have NM5 := Lib.hid (NM4.out.kept hk5)
    clear hk5 CP NM4 O4 I4
    obtain ⟨j, hj⟩ : ∃ j, j = l.findIdx (gtN n) := ⟨_, rfl⟩
    have hjl : j ≤ l.length := by rw [hj]; exact List.findIdx_le_length
    have CA := Lib.hid (show ∀ W, Kept w5 W → Calls Tryz.prog 40 #[.slice (some ⟨w.heap.size + 1 + 1 + 1, 0, none⟩) l.length (l.length + 1), .int .i64 n] W fun e w' => e = .returned (.int .i64 j) ∧ Kept W w' from fun W k => splaceAhead_any (fun _ => True) l _ (l.length + 1) n W (NM5.out.kept k) j hj)
    have CI := Lib.hid (show ∀ W vb, Kept w5 W → vb ≠ w.heap.size + 1 + 1 + 1 → Blk W vb #[.int .i64 n, .int .i64 0, .int .i64 o.k, .int .i64 o.n, .int .i64 o.f, .string o.s, .slice ho.p o.l.length ho.c, .slice ho.q o.d.length ho.e] 53 → Calls Tryz.prog 39 #[.slice (some ⟨w.heap.size + 1 + 1 + 1, 0, none⟩) l.length (l.length + 1), .int .i64 j, .slice (some ⟨vb, 0, none⟩) 1 1] W fun e w' =>
        ∃ g' cap, e = .returned (.slice (some ⟨g', 0, none⟩) (l.length + 1) cap) ∧ OwnN 53 w' (w.heap.size + 1 + 1 + 1) (.slice (some ⟨g', 0, none⟩) (l.length + 1) cap) (rs.take j ++ (⟨n, 0, o⟩, ho) :: rs.drop j) ∧ W.grownBy w' (some (w.heap.size + 1 + 1 + 1)) from fun W vb k hne hb => by
      have o5 := O5.out.kept k
      rw [← HLE.out] at o5
      have z := Ins_any (w.heap.size + 1 + 1 + 1) (w.heap.size + 1 + 1 + 1) vb j rs ⟨n, 0, o⟩ ho W (by have := HLE.out; omega) (by have := Below.size k; omega) hne (by have := HLE.out; omega) o5 hb
      rw [HLE.out] at z
      exact z)
    have HLF := Lib.hid (show (rs.take j ++ (⟨n, 0, o⟩, ho) :: rs.drop j).length = l.length + 1 ∧ ∀ r ∈ rs.take j ++ (⟨n, 0, o⟩, ho) :: rs.drop j, Lies (Cel (fun _ => True) w) r.1.o r.2 from by
      refine ⟨by have := HLE.out; simp only [List.length_append, List.length_cons, List.length_take, List.length_drop]; omega, fun r hr => ?_⟩
      rcases List.mem_append.1 hr with hr | hr
      · exact HLI.out r (List.mem_of_mem_take hr)
      · rcases List.mem_cons.1 hr with rfl | hr
        · exact LO.out
        · exact HLI.out r (List.mem_of_mem_drop hr))
    have HRF := Lib.hid (show (rs.take j ++ (⟨n, 0, o⟩, ho) :: rs.drop j).map (·.1) = putL l n o from by
      unfold putL
      rw [dif_neg HNO.out, ← hj, List.map_append, List.map_cons, List.map_take, List.map_drop, HRS.out])
    have hMF : (putL l n o).length = l.length + 1 := by rw [← HRF.out, List.length_map]; exact HLF.out.1
    clear hj
    have MX := Lib.hid (I5.out.mem (List.mem_cons_of_mem _ List.mem_cons_self))
    obtain ⟨x0, x1, x2, x3, x4, x5⟩ := MX.out.cells6
    have SX := Lib.hid (show ∀ W, Kept w5 W → (fun w' => w'.cell? ⟨w.heap.size + 1, 0, none⟩ = some (.int .i64 o.k) ∧ w'.cell? ⟨w.heap.size + 1, 1, none⟩ = some (.int .i64 o.n) ∧ w'.cell? ⟨w.heap.size + 1, 2, none⟩ = some (.int .i64 o.f) ∧ w'.cell? ⟨w.heap.size + 1, 3, none⟩ = some (.string o.s) ∧ w'.cell? ⟨w.heap.size + 1, 4, none⟩ = some (.slice ho.p o.l.length ho.c) ∧ w'.cell? ⟨w.heap.size + 1, 5, none⟩ = some (.slice ho.q o.d.length ho.e)) W from fun W k => (MX.out.kept k).cells6)
    go_upto_region 7 with fail
    refine wp_region_held_drew (S := (fun w' => w'.cell? ⟨w.heap.size + 1, 0, none⟩ = some (.int .i64 o.k) ∧ w'.cell? ⟨w.heap.size + 1, 1, none⟩ = some (.int .i64 o.n) ∧ w'.cell? ⟨w.heap.size + 1, 2, none⟩ = some (.int .i64 o.f) ∧ w'.cell? ⟨w.heap.size + 1, 3, none⟩ = some (.string o.s) ∧ w'.cell? ⟨w.heap.size + 1, 4, none⟩ = some (.slice ho.p o.l.length ho.c) ∧ w'.cell? ⟨w.heap.size + 1, 5, none⟩ = some (.slice ho.q o.d.length ho.e))) (by kernel_rfl) ?_ (fun hHeld => ?_)
    · exact SX.out _ (Kept.refl w5).drew
    clear x0 x1 x2 x3 x4 x5
    refine wpAnyH_take (i := 0) (oi := ⟨some 35, _, _, _, _, _⟩) (v := ?_) rfl (by kernel_rfl) (by kernel_rfl) (by kernel_rfl) (fun _ _ _ h => h) (Or.inl ⟨by rfl, ?_⟩) (by assumption) ?_
    rotate_left 1
    · (intro w hSw; (try dsimp only at hSw); go_simp <;> with_reducible rfl)
    try simp only [Act.put, List.setIfInBounds_toArray, List.set_cons_zero, List.set_cons_succ]
    refine wpAnyH_take (i := 1) (oi := ⟨some 36, _, _, _, _, _⟩) (v := ?_) rfl (by kernel_rfl) (by kernel_rfl) (by kernel_rfl) (fun _ _ _ h => h) (Or.inl ⟨by rfl, ?_⟩) (by assumption) ?_
    rotate_left 1
    · (intro w hSw; (try dsimp only at hSw); go_simp <;> with_reducible rfl)
    try simp only [Act.put, List.setIfInBounds_toArray, List.set_cons_zero, List.set_cons_succ]
    refine wpAnyH_take (i := 2) (oi := ⟨some 37, _, _, _, _, _⟩) (v := ?_) rfl (by kernel_rfl) (by kernel_rfl) (by kernel_rfl) (fun _ _ _ h => h) (Or.inl ⟨by rfl, ?_⟩) (by assumption) ?_
    rotate_left 1
    · (intro w hSw; (try dsimp only at hSw); go_simp <;> with_reducible rfl)
    try simp only [Act.put, List.setIfInBounds_toArray, List.set_cons_zero, List.set_cons_succ]
    refine wpAnyH_take (i := 4) (oi := ⟨some 39, _, _, _, _, _⟩) (v := ?_) rfl (by kernel_rfl) (by kernel_rfl) (by kernel_rfl) (fun _ _ _ h => h) (Or.inl ⟨by rfl, ?_⟩) (by assumption) ?_
    rotate_left 1
    · (intro w hSw; (try dsimp only at hSw); go_simp <;> with_reducible rfl)
    try simp only [Act.put, List.setIfInBounds_toArray, List.set_cons_zero, List.set_cons_succ]
    refine wpAnyH_take (i := 5) (oi := ⟨some 40, _, _, _, _, _⟩) (v := ?_) rfl (by kernel_rfl) (by kernel_rfl) (by kernel_rfl) (fun _ _ _ h => h) (Or.inl ⟨by rfl, ?_⟩) (by assumption) ?_
    rotate_left 1
    · (intro w hSw; (try dsimp only at hSw); go_simp <;> with_reducible rfl)
    try simp only [Act.put, List.setIfInBounds_toArray, List.set_cons_zero, List.set_cons_succ]
    refine wpAnyH_take (i := 6) (oi := ⟨some 41, _, _, _, _, _⟩) (v := ?_) rfl (by kernel_rfl) (by kernel_rfl) (by kernel_rfl) (fun _ _ _ h => h) (Or.inl ⟨by rfl, ?_⟩) (by assumption) ?_
    rotate_left 1
    · (intro w hSw; (try dsimp only at hSw); go_simp <;> with_reducible rfl)
    try simp only [Act.put, List.setIfInBounds_toArray, List.set_cons_zero, List.set_cons_succ]
    refine wpAnyH_ready (rs := [3, 7]) (by kernel_rfl) (by simp) ?_
    refine AllReadyH.cons (o := ⟨some 38, _, _, _, _, _⟩) rfl (fun K hK => ?_) (AllReadyH.cons (o := ⟨some 42, _, _, _, _, _⟩) rfl (fun K hK => ?_) AllReadyH.nil)
    · go_simp
      (with_reducible refine (CA.out _ (Kept.refl w5).drew).mono ?_)
      rintro e w6 ⟨rfl, hk6⟩
      have K6 := Lib.hid (((Kept.refl w5).drew).trans hk6)
      clear hk6
      refine hK.out _ _ ?_ (fun hHeld => ?_)
      · exact SX.out _ K6.out
      clear hK K
      try simp only [Act.put, List.setIfInBounds_toArray, List.set_cons_zero, List.set_cons_succ]
      refine wpAnyH_ready (rs := [7]) (by kernel_rfl) (by simp) ?_
      refine AllReadyH.cons (o := ⟨some 42, _, _, _, _, _⟩) rfl (fun K hK => ?_) AllReadyH.nil
      go_simp
      have KB := Lib.hid (show Kept w5 (w6.alloc (.cells #[.int .i64 n, .int .i64 0, .int .i64 o.k, .int .i64 o.n, .int .i64 o.f, .string o.s, .slice ho.p o.l.length ho.c, .slice ho.q o.d.length ho.e] 53)) from K6.out.allocO _)
      have BV := Lib.hid (show Blk (w6.alloc (.cells #[.int .i64 n, .int .i64 0, .int .i64 o.k, .int .i64 o.n, .int .i64 o.f, .string o.s, .slice ho.p o.l.length ho.c, .slice ho.q o.d.length ho.e] 53)) w6.heap.size #[.int .i64 n, .int .i64 0, .int .i64 o.k, .int .i64 o.n, .int .i64 o.f, .string o.s, .slice ho.p o.l.length ho.c, .slice ho.q o.d.length ho.e] 53 from Blk.fresh w6 _ _)
      have zz := Below.size K6.out
      refine hK.out _ _ ?_ (fun hHeld => ?_)
      · exact SX.out _ KB.out
      clear hK K
      try simp only [Act.put, List.setIfInBounds_toArray, List.set_cons_zero, List.set_cons_succ]
      refine wpAnyH_ready (rs := [8]) (by kernel_rfl) (by simp) ?_
      refine AllReadyH.cons (o := ⟨some 43, _, _, _, _, _⟩) rfl (fun K hK => ?_) AllReadyH.nil
      go_simp
      (with_reducible refine (CI.out _ _ KB.out (by omega) BV.out).mono ?_)
      rintro e w8 ⟨g8, cap8, rfl, own8, hg8⟩
      have I8 := Lib.hid ((I5.out.kept KB.out).gbOwn hg8 NG.out)
      have O8 := Lib.hid own8
      clear own8 hg8
      refine hK.out _ _ ?_ (fun hHeld => ?_)
      · exact (I8.out.mem (List.mem_cons_of_mem _ List.mem_cons_self)).cells6
      clear hK K
      try simp only [Act.put, List.setIfInBounds_toArray, List.set_cons_zero, List.set_cons_succ]
      refine wpAnyH_take (i := 9) (oi := ⟨some 8, _, _, _, _, _⟩) (v := ?_) rfl (by kernel_rfl) (by kernel_rfl) (by kernel_rfl) (fun _ _ _ h => h) (Or.inl ⟨by rfl, ?_⟩) (by assumption) ?_
      rotate_left 1
      · (intro w hSw; (try dsimp only at hSw); go_simp <;> with_reducible rfl)
      try simp only [Act.put, List.setIfInBounds_toArray, List.set_cons_zero, List.set_cons_succ]
      refine wpAnyH_done (by kernel_rfl) ?_ _
      clear hHeld
      have NR := Lib.hid (show NmR (fun b => b ≠ w.heap.size + 1 + 1) w8 (some ⟨g8, 0, none⟩) (putL l n o) from by
        have z := put_done w w8 l n o g8 cap8 (l.length + 1) (rs.take j ++ (⟨n, 0, o⟩, ho) :: rs.drop j) O8.out HLF.out (In.k I8.out) (by unfold maxLen; omega) HRF.out
        exact z)
      have RM := Lib.hid (I8.out.mem List.mem_cons_self)
      have FM := Lib.hid (I8.out.mem (List.mem_cons_of_mem _ (List.mem_cons_of_mem _ List.mem_cons_self)))
      obtain ⟨u0, u1, u2, u3, u4, u5, u6⟩ := RM.out.cells7
      have uf := RM.out.free
      have uz := RM.out.lt
      obtain ⟨f0, f1, f2, f3, f4, f5, f6⟩ := FM.out.cells7
      have KZ := Lib.hid (In.k I8.out)
      go_wp2_with fail
      refine bodyPost_ret (v := .tuple #[.agg #[.slice (some ⟨g8, 0, none⟩) (l.length + 1) cap8, .int .i64 t.k, .int .i64 t.n, .int .i64 t.f, .string t.s, .slice ht.p t.l.length ht.c, .slice ht.q t.d.length ht.e], .int .i64 0]) ?_ rfl ⟨(some ⟨g8, 0, none⟩), cap8, ?_, ?_, ?_⟩
      · simp [results, Tryz.results17, go_sem, u0, u1, u2, u3, u4, u5, u6]
      · rw [hMF]
      · repeat (with_reducible first | exact KZ.out | refine Kept.drew ?_ | refine Kept.set ?_ (by omega) _)
      · refine NmR.weak (P := fun b => b ≠ w.heap.size + 1 + 1) ?_ (fun _ _ => trivial)
        refine NR.out.gb (r := some (w.heap.size + 1 + 1)) ?_ (fun b hb e => hb (Option.some.inj e))
        repeat (with_reducible first | exact gb_refl _ _ | refine gb_drew ?_ | refine gb_own ?_ _ _)
    · go_simp
      have KB := Lib.hid (show Kept w5 ((w5.alloc (.cells #[.int .i64 n, .int .i64 0, .int .i64 o.k, .int .i64 o.n, .int .i64 o.f, .string o.s, .slice ho.p o.l.length ho.c, .slice ho.q o.d.length ho.e] 53)).drew) from ((Kept.refl w5).allocO _).drew)
      have BW := Lib.hid (show Blk ((w5.alloc (.cells #[.int .i64 n, .int .i64 0, .int .i64 o.k, .int .i64 o.n, .int .i64 o.f, .string o.s, .slice ho.p o.l.length ho.c, .slice ho.q o.d.length ho.e] 53)).drew) w5.heap.size #[.int .i64 n, .int .i64 0, .int .i64 o.k, .int .i64 o.n, .int .i64 o.f, .string o.s, .slice ho.p o.l.length ho.c, .slice ho.q o.d.length ho.e] 53 from (Blk.fresh w5 _ _).drew)
      refine hK.out _ _ ?_ (fun hHeld => ?_)
      · exact SX.out _ KB.out
      clear hK K
      try simp only [Act.put, List.setIfInBounds_toArray, List.set_cons_zero, List.set_cons_succ]
      refine wpAnyH_ready (rs := [3]) (by kernel_rfl) (by simp) ?_
      refine AllReadyH.cons (o := ⟨some 38, _, _, _, _, _⟩) rfl (fun K hK => ?_) AllReadyH.nil
      go_simp
      (with_reducible refine (CA.out _ KB.out).mono ?_)
      rintro e w6 ⟨rfl, hk6⟩
      have K6 := Lib.hid (KB.out.trans hk6)
      have BV := Lib.hid (BW.out.kept hk6)
      have zz : w5.heap.size ≤ w5.heap.size := Nat.le_refl _
      clear hk6
      refine hK.out _ _ ?_ (fun hHeld => ?_)
      · exact SX.out _ K6.out
      clear hK K
      try simp only [Act.put, List.setIfInBounds_toArray, List.set_cons_zero, List.set_cons_succ]
      refine wpAnyH_ready (rs := [8]) (by kernel_rfl) (by simp) ?_
      refine AllReadyH.cons (o := ⟨some 43, _, _, _, _, _⟩) rfl (fun K hK => ?_) AllReadyH.nil
      go_simp
      (with_reducible refine (CI.out _ _ K6.out (by omega) BV.out).mono ?_)
      rintro e w8 ⟨g8, cap8, rfl, own8, hg8⟩
      have I8 := Lib.hid ((I5.out.kept K6.out).gbOwn hg8 NG.out)
      have O8 := Lib.hid own8
      clear own8 hg8
      refine hK.out _ _ ?_ (fun hHeld => ?_)
      · exact (I8.out.mem (List.mem_cons_of_mem _ List.mem_cons_self)).cells6
      clear hK K
      try simp only [Act.put, List.setIfInBounds_toArray, List.set_cons_zero, List.set_cons_succ]
      refine wpAnyH_take (i := 9) (oi := ⟨some 8, _, _, _, _, _⟩) (v := ?_) rfl (by kernel_rfl) (by kernel_rfl) (by kernel_rfl) (fun _ _ _ h => h) (Or.inl ⟨by rfl, ?_⟩) (by assumption) ?_
      rotate_left 1
      · (intro w hSw; (try dsimp only at hSw); go_simp <;> with_reducible rfl)
      try simp only [Act.put, List.setIfInBounds_toArray, List.set_cons_zero, List.set_cons_succ]
      refine wpAnyH_done (by kernel_rfl) ?_ _
      clear hHeld
      have NR := Lib.hid (show NmR (fun b => b ≠ w.heap.size + 1 + 1) w8 (some ⟨g8, 0, none⟩) (putL l n o) from by
        have z := put_done w w8 l n o g8 cap8 (l.length + 1) (rs.take j ++ (⟨n, 0, o⟩, ho) :: rs.drop j) O8.out HLF.out (In.k I8.out) (by unfold maxLen; omega) HRF.out
        exact z)
      have RM := Lib.hid (I8.out.mem List.mem_cons_self)
      have FM := Lib.hid (I8.out.mem (List.mem_cons_of_mem _ (List.mem_cons_of_mem _ List.mem_cons_self)))
      obtain ⟨u0, u1, u2, u3, u4, u5, u6⟩ := RM.out.cells7
      have uf := RM.out.free
      have uz := RM.out.lt
      obtain ⟨f0, f1, f2, f3, f4, f5, f6⟩ := FM.out.cells7
      have KZ := Lib.hid (In.k I8.out)
      go_wp2_with fail
      refine bodyPost_ret (v := .tuple #[.agg #[.slice (some ⟨g8, 0, none⟩) (l.length + 1) cap8, .int .i64 t.k, .int .i64 t.n, .int .i64 t.f, .string t.s, .slice ht.p t.l.length ht.c, .slice ht.q t.d.length ht.e], .int .i64 0]) ?_ rfl ⟨(some ⟨g8, 0, none⟩), cap8, ?_, ?_, ?_⟩
      · simp [results, Tryz.results17, go_sem, u0, u1, u2, u3, u4, u5, u6]
      · rw [hMF]
      · repeat (with_reducible first | exact KZ.out | refine Kept.drew ?_ | refine Kept.set ?_ (by omega) _)
      · refine NmR.weak (P := fun b => b ≠ w.heap.size + 1 + 1) ?_ (fun _ _ => trivial)
        refine NR.out.gb (r := some (w.heap.size + 1 + 1)) ?_ (fun b hb e => hb (Option.some.inj e))
        repeat (with_reducible first | exact gb_refl _ _ | refine gb_drew ?_ | refine gb_own ?_ _ _)
  · have e : X = (i : Int) := by omega
    subst e
    have m1 : (0 : Int) ≤ (i : Int) := by omega
    have m3 : (i : Int) < (l.length : Int) := by omega
    have HYES := Lib.hid (show l.findIdx (eqN n) = i from by unfold idxN at hie; split at hie <;> omega)
    clear hX hie
    go_wp2_with fail
    (with_reducible refine CP.out.mono ?_)
    rintro e w5 ⟨rfl, hk5⟩
    have I5 := Lib.hid (I4.out.kept hk5)
    have O5 := Lib.hid (show OwnN 53 w5 (w.heap.size + 1 + 1 + 1) (.slice (some ⟨w.heap.size + 1 + 1 + 1, 0, none⟩) rs.length (l.length + 1)) rs from by have z := O4.out.kept hk5; rw [HLE.out]; exact z)
    have hz5 : w.heap.size + 1 + 1 + 1 < w5.heap.size := by have := Below.size hk5; omega
    clear hk5 CP NM4 O4 I4
    have hir : i < rs.length := by have := HLE.out; omega
    obtain ⟨s2, s3, s4, s5, s6, s7⟩ : w5.cell? ⟨w.heap.size + 1 + 1 + 1, i * 8 + 2, none⟩ = some (.int .i64 rs[i].1.o.k) ∧ w5.cell? ⟨w.heap.size + 1 + 1 + 1, i * 8 + 3, none⟩ = some (.int .i64 rs[i].1.o.n) ∧ w5.cell? ⟨w.heap.size + 1 + 1 + 1, i * 8 + 4, none⟩ = some (.int .i64 rs[i].1.o.f) ∧ w5.cell? ⟨w.heap.size + 1 + 1 + 1, i * 8 + 5, none⟩ = some (.string rs[i].1.o.s) ∧ w5.cell? ⟨w.heap.size + 1 + 1 + 1, i * 8 + 6, none⟩ = some (.slice rs[i].2.p rs[i].1.o.l.length rs[i].2.c) ∧ w5.cell? ⟨w.heap.size + 1 + 1 + 1, i * 8 + 7, none⟩ = some (.slice rs[i].2.q rs[i].1.o.d.length rs[i].2.e) := by
      obtain ⟨b, off, hp, -, -, -, c2, c3, c4, c5, c6, c7⟩ := O5.out.row.cells i hir
      obtain ⟨rfl, rfl⟩ : w.heap.size + 1 + 1 + 1 = b ∧ 0 = off := by have e := Option.some.inj hp; injection e with e1 e2; exact ⟨e1, e2⟩
      rw [Nat.zero_add] at c2 c3 c4 c5 c6 c7
      exact ⟨c2, c3, c4, c5, c6, c7⟩
    have sf : ∀ k, w5.frozen? ⟨w.heap.size + 1 + 1 + 1, k, none⟩ = false := fun k => O5.out.frozen k
    obtain ⟨x0, x1, x2, x3, x4, x5⟩ := (I5.out.mem (List.mem_cons_of_mem _ List.mem_cons_self)).cells6
    have OP := Lib.hid (O5.out.put i hir o ho)
    have I6 := Lib.hid (I5.out.gbOwn OP.out.2 NG.out)
    have O6 := Lib.hid OP.out.1
    have HLF := Lib.hid (show (rs.set i (⟨rs[i].1.n, rs[i].1.g, o⟩, ho)).length = l.length ∧ ∀ r ∈ rs.set i (⟨rs[i].1.n, rs[i].1.g, o⟩, ho), Lies (Cel (fun _ => True) w) r.1.o r.2 from by
      refine ⟨by rw [List.length_set]; exact HLE.out, fun r hr => ?_⟩
      rcases List.mem_or_eq_of_mem_set hr with hr | rfl
      · exact HLI.out r hr
      · exact LO.out)
    have HRF := Lib.hid (show (rs.set i (⟨rs[i].1.n, rs[i].1.g, o⟩, ho)).map (·.1) = putL l n o from by
      have e1 : rs[i].1 = l[i] := by simp only [← HRS.out, List.getElem_map]
      have e2 : ∀ k (hk : k < l.length), k = i → l.take k ++ (⟨l[k].n, l[k].g, o⟩ : Nm) :: l.drop (k + 1) = l.set i ⟨l[i].n, l[i].g, o⟩ := fun k hk ek => by
        subst ek; rw [List.set_eq_take_append_cons_drop, if_pos hk]
      unfold putL
      rw [dif_pos (by rw [HYES.out]; exact hi), e2 _ (by rw [HYES.out]; exact hi) HYES.out, List.map_set, HRS.out, e1])
    have hMF : (putL l n o).length = l.length := by rw [← HRF.out, List.length_map]; exact HLF.out.1
    have NR := Lib.hid (put_done w _ l n o (w.heap.size + 1 + 1 + 1) (l.length + 1) l.length _ (by rw [← HLE.out]; rw [HLE.out]; have z := O6.out; rw [HLE.out] at z; exact z) HLF.out (In.k I6.out) (by unfold maxLen; omega) HRF.out)
    go_upto_region 8 with fail
    clear x0 x1 x2 x3 x4 x5 s2 s3 s4 s5 s6 s7 sf
    have RM := Lib.hid (I6.out.mem List.mem_cons_self)
    have FM := Lib.hid (I6.out.mem (List.mem_cons_of_mem _ (List.mem_cons_of_mem _ List.mem_cons_self)))
    obtain ⟨u0, u1, u2, u3, u4, u5, u6⟩ := RM.out.cells7
    have uf := RM.out.free
    have uz := RM.out.lt
    obtain ⟨f0, f1, f2, f3, f4, f5, f6⟩ := FM.out.cells7
    have KZ := Lib.hid (In.k I6.out)
    go_wp2_with fail
    refine bodyPost_ret (v := .tuple #[.agg #[.slice (some ⟨w.heap.size + 1 + 1 + 1, 0, none⟩) l.length (l.length + 1), .int .i64 t.k, .int .i64 t.n, .int .i64 t.f, .string t.s, .slice ht.p t.l.length ht.c, .slice ht.q t.d.length ht.e], .int .i64 0]) ?_ rfl ⟨(some ⟨w.heap.size + 1 + 1 + 1, 0, none⟩), (l.length + 1), ?_, ?_, ?_⟩
    · simp [results, Tryz.results17, go_sem, u0, u1, u2, u3, u4, u5, u6]
    · rw [hMF]
    · repeat (with_reducible first | exact KZ.out | refine Kept.drew ?_ | refine Kept.set ?_ (by omega) _)
    · refine NmR.weak (P := fun b => b ≠ w.heap.size + 1 + 1) ?_ (fun _ _ => trivial)
      refine NR.out.gb (r := some (w.heap.size + 1 + 1)) ?_ (fun b hb e => hb (Option.some.inj e))
      repeat (with_reducible first | exact gb_refl _ _ | refine gb_drew ?_ | refine gb_own ?_ _ _)

end Go.Proofs.YtoablpaehhjchaaGreatDoor
