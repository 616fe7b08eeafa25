/-
  The law's entries as the reference's; the reference's Same.
-/
import Derived.Test.YtoablpaehhjchaaGreatDoorXrfRow
import Derived.StillTailTactics
import Derived.Deep.RegionHeld3
import Derived.BigRegion
import Derived.BigQuiet
namespace Go.Proofs.YtoablpaehhjchaaGreatDoor
open Go.RowKit Rx
set_option linter.unusedSimpArgs false
set_option linter.unusedVariables false

/-- An entry of the reference's is appended, in a region that draws its order. -/
theorem step_app_rent {ops : Array Oper} {o : Oper} {a : Act} {K : Act → World → Prop} {Q : Exit → Act → World → Prop} {E : Prop} (hgd : o.guard = none) (s x : Operand)
    (ho : o.op = .call { callee := .builtin .append, args := #[s, x], argTypes := #[28, 28] })
    {W : World} (B : Nat) (v : Value) (l : List Xent) (hs : a.eval s = v) (hown : Ents 72 W B v l) (t : Xent) (g : Nat) (hb : Blk W g (entc t).toArray 72)
    (hx : a.eval x = .slice (some ⟨g, 0, none⟩) 1 1) (hB : B ≤ W.heap.size) (hlen : l.length ≤ 1099511627776)
    (h : ∀ v' w', Ents 72 w' B v' (l ++ [t]) → W.grownBy w' v.ownBlock → K (a.put o.dst v') w') :
    if Region.wanted o (yielded ops a.tmps) = true then Oper.wp Tryz.prog o a W K Q else E := by
  obtain ⟨i0, hi, hz0, hz1, hz2⟩ := info_parts info_rent
  refine step_append_lies _ hgd s x 28 ho B 72 i0 _ 4 32 Tryz.underlying28 hi hz0 hz1 hz2 rfl (by decide) v l.length (entC l) hs hown ⟨g, 0, none⟩ 1 1 (entc t) hx rfl
    ?_ ?_ (by decide) (by unfold maxLen; omega) (by omega) hB _ rfl ?_
  · intro j u hj
    rw [Addr.add_lit, Nat.zero_add, hb.cell j]
    simpa using hj
  · intro u hu
    simp only [entc, List.mem_cons, List.not_mem_nil, or_false] at hu
    rcases hu with rfl | rfl | rfl | rfl <;> rfl
  · intro g' cap w' h1 h2 h3 _
    refine h _ w' ?_ h2
    unfold Ents
    rw [List.length_append, entC_app, entC_one]
    exact h1

set_option maxRecDepth 100000 in
set_option maxHeartbeats 4000000 in
theorem xtheirs_any (l : List Xent) (p : Option Addr) (c : Nat) (w : World) (h : EntR w w.heap.size p l) (hB : l.length ≤ 1099511627776) :
    Calls Tryz.prog 9 #[.slice p l.length c] w fun e w' => ∃ v, e = .returned v ∧ Ents 72 w' w.heap.size v l ∧ Kept w w' := by
  have HT := Lib.hid h
  clear h
  go_enter Tryz.func9, Tryz.ntmps9
  go_wp2_with fail
  go_loopg [3, 4] l.length (fun m x y wr => ∃ (j : Nat) (vv : Value), vv = x ∧ m = l.length - j ∧ j ≤ l.length ∧ y = .int .i64 j ∧ Ents 72 wr w.heap.size vv (l.take j) ∧ Kept w wr)
  case atStart => exact ⟨0, _, rfl, rfl, Nat.zero_le _, rfl, World.ownsRow_nil _ _ _ _, Kept.refl w⟩
  case round =>
    obtain ⟨j, vv, rfl, hm, hj, rfl, ho, hk⟩ := hrel
    have HO := Lib.hid ho
    have HK := Lib.hid hk
    have hsr := Below.size hk
    clear ho hk
    by_cases hlt : j < l.length
    · have j1 : (j : Int) < (l.length : Int) := by omega
      obtain ⟨kb, o, hp, hkb, c0, c1, c2, c3⟩ := (HT.out.keep (Nat.le_refl _) HK.out) j hlt
      subst hp
      have htk : l.take (j + 1) = l.take j ++ [l[j]] := List.take_succ_eq_append_getElem hlt
      obtain ⟨t, ht⟩ : ∃ t, t = l[j] := ⟨_, rfl⟩
      rw [← ht] at c0 c1 c2 c3 htk
      have HTK := Lib.hid htk
      have hll : (l.take j).length = j := by rw [List.length_take]; omega
      have HLL := Lib.hid hll
      have hlb : (l.take j).length ≤ 1099511627776 := by omega
      clear ht htk hll
      go_upto_region 5 with fail
      have KA := Lib.hid (show Kept wr ((wr.alloc (.cells #[.int .i64 t.n, .int .i64 t.off, .int .i64 t.gen, .bool t.used] 72)).drew) from ((Kept.refl wr).allocO _).drew)
      have OA := Lib.hid (HO.out.kept KA.out)
      have BA := Lib.hid (show Blk ((wr.alloc (.cells #[.int .i64 t.n, .int .i64 t.off, .int .i64 t.gen, .bool t.used] 72)).drew) wr.heap.size (entc t).toArray 72 from (Blk.fresh wr _ _).drew)
      have hsA := Nat.le_trans hsr (Below.size KA.out)
      have CC := Lib.hid (fun w5 (g : ((wr.alloc (.cells #[.int .i64 t.n, .int .i64 t.off, .int .i64 t.gen, .bool t.used] 72)).drew).grownBy w5 vv.ownBlock) => (show w5.heap[kb]? = wr.heap[kb]? from
        (g.block kb (by have := Below.size KA.out; omega) (fun e => by have := (HO.out.lt kb e.symm).1; omega)).trans (KA.out.block kb (by omega))))
      have C0 := Lib.hid c0
      have C1 := Lib.hid c1
      have C2 := Lib.hid c2
      have C3 := Lib.hid c3
      go_region_held3 (fun w' => w'.cell? ⟨kb, o + j * 4, none⟩ = some (.int .i64 t.n) ∧ w'.cell? ⟨kb, o + j * 4 + 1, none⟩ = some (.int .i64 t.off) ∧ w'.cell? ⟨kb, o + j * 4 + 2, none⟩ = some (.int .i64 t.gen) ∧ w'.cell? ⟨kb, o + j * 4 + 3, none⟩ = some (.bool t.used)) (first | go_keep | exact ⟨d0, d1, d2, d3⟩ | exact ⟨C0.out, C1.out, C2.out, C3.out⟩ | simp [d0, d1, d2, d3]) ((refine step_app_rent (by rfl) _ _ (by rfl) w.heap.size vv (l.take j) (by rfl) OA.out t wr.heap.size BA.out (by rfl) hsA hlb ?_; intro v' w5 hown5 hgrow5; have d0 : w5.cell? ⟨kb, o + j * 4, none⟩ = some (.int .i64 t.n) := (World.cell?_of_block (CC.out w5 hgrow5)).trans C0.out; have d1 : w5.cell? ⟨kb, o + j * 4 + 1, none⟩ = some (.int .i64 t.off) := (World.cell?_of_block (CC.out w5 hgrow5)).trans C1.out; have d2 : w5.cell? ⟨kb, o + j * 4 + 2, none⟩ = some (.int .i64 t.gen) := (World.cell?_of_block (CC.out w5 hgrow5)).trans C2.out; have d3 : w5.cell? ⟨kb, o + j * 4 + 3, none⟩ = some (.bool t.used) := (World.cell?_of_block (CC.out w5 hgrow5)).trans C3.out))
      all_goals
        have O5 := Lib.hid hown5
        have K5 := Lib.hid (show Kept w w5 from Below.grown (HK.out.trans KA.out) hgrow5 hsA (fun y hy => (HO.out.lt y hy).1))
        rw [← HTK.out] at O5
        clear hown5 hgrow5 d0 d1 d2 d3 c0 c1 c2 c3
        go_wp2_with fail
        go_roundg (l.length - (j + 1))
        case measure => omega
        case rel => exact ⟨j + 1, v', rfl, rfl, by omega, by go_num, O5.out, K5.out⟩
    · obtain rfl : j = l.length := by omega
      have O2 := HO.out
      rw [List.take_length] at O2
      have O3 := Lib.hid O2
      clear O2
      go_wp2_with fail
      go_ret
      exact ⟨_, rfl, O3.out, HK.out⟩

set_option maxRecDepth 100000 in
set_option maxHeartbeats 1000000 in
theorem refSame_any (l : List Xent) (p q : Option Addr) (c d : Nat) (w : World) (h : EntR w w.heap.size p l) (h2 : EntR w w.heap.size q l) (hB : l.length ≤ 1099511627776) :
    Calls Tryz.prog 10 #[.slice p l.length c, .slice q l.length d] w fun e w' => e = .returned (.bool true) ∧ Kept w w' := by
  have HP := Lib.hid h
  have HQ := Lib.hid h2
  clear h h2
  go_enter Tryz.func10, Tryz.ntmps10
  go_wp2_with fail
  go_loopg [5] l.length (fun m y wr => ∃ (j : Nat), m = l.length - j ∧ j ≤ l.length ∧ y = .int .i64 j ∧ Kept w wr)
  case atStart => exact ⟨0, rfl, Nat.zero_le _, rfl, Kept.refl w⟩
  case round =>
    obtain ⟨j, hm, hj, rfl, hk⟩ := hrel
    have HK := Lib.hid hk
    clear hk
    by_cases hlt : j < l.length
    · have j1 : (j : Int) < (l.length : Int) := by omega
      obtain ⟨kb, o, hp, hkb, c0, c1, c2, c3⟩ := (HP.out.keep (Nat.le_refl _) HK.out) j hlt
      obtain ⟨kq, oq, hq, hkq, d0, d1, d2, d3⟩ := (HQ.out.keep (Nat.le_refl _) HK.out) j hlt
      subst hp hq
      obtain ⟨t, ht⟩ : ∃ t, t = l[j] := ⟨_, rfl⟩
      rw [← ht] at c0 c1 c2 c3 d0 d1 d2 d3
      have z0 : (t.n != t.n) = false := bne_self_eq_false _
      have z1 : (t.off != t.off) = false := bne_self_eq_false _
      have z2 : (t.gen != t.gen) = false := bne_self_eq_false _
      have z3 : (t.used != t.used) = false := bne_self_eq_false _
      clear ht
      go_wp2_with fail
      go_quiet (fail)
      go_wp2_with fail
      go_roundg (l.length - (j + 1))
      case measure => omega
      case rel => exact ⟨j + 1, rfl, by omega, by go_num, HK.out.drewN _⟩
    · obtain rfl : j = l.length := by omega
      go_wp2_with fail
      go_ret
      exact ⟨rfl, HK.out⟩

end Go.Proofs.YtoablpaehhjchaaGreatDoor
