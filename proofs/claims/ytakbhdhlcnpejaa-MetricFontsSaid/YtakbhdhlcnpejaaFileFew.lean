/-
  The reference of package store: whether a file is small enough.
-/
import Derived.Test.YtakbhdhlcnpejaaArgS
import Derived.Test.YtakbhdhlcnpejaaCosFew
import Derived.Deep.RegionLaw
import Derived.Deep.Cut
import Derived.Deep.RegionHeld3
import Derived.Deep.LoopGhost
namespace Go.Proofs.Ytakbhdhlcnpejaa
open Go.RowKit Cx Sx
set_option linter.unusedSimpArgs false
set_option linter.unusedVariables false

/-- Objects that a call copies into an array of its own: what lay elsewhere stays there. -/
def OwnO (w : World) (N : Nat) (v : Value) (rs : ORow) : Prop := w.ownsRow N 27 6 v rs.length (flatO rs)
section
variable {w w' : World} {N : Nat} {v : Value} {rs : ORow}
theorem OwnO.nil (N : Nat) (w : World) : OwnO w N (.slice none 0 0) [] := World.ownsRow_nil _ _ _ _
theorem OwnO.lt (h : OwnO w N v rs) : ∀ k, v.ownBlock = some k → N ≤ k ∧ k < w.heap.size := World.ownsRow.lt h
theorem OwnO.gb (h : OwnO w N v rs) {r : Option Nat} (g : w.grownBy w' r) (hne : v.ownBlock = none ∨ v.ownBlock ≠ r) : OwnO w' N v rs := World.ownsRow.kept h g hne
theorem OwnO.kept (h : OwnO w N v rs) (k : Kept w w') : OwnO w' N v rs :=
  h.gb (gb_kept k none) (by cases hv : v.ownBlock with
    | none => exact .inl rfl
    | some g => exact .inr (by simp))
theorem OwnO.row {p : Option Addr} {cap : Nat} (h : OwnO w N (.slice p rs.length cap) rs) (i : Nat) (hi : i < rs.length) : ∃ b o, p = some ⟨b, o, none⟩ ∧ RowAt (Cel (fun _ => True) w) b (o + i * 6) (cells6 rs[i].1 rs[i].2) := by
  obtain ⟨g, cap', hv, hb⟩ : ∃ g cap', (Value.slice p rs.length cap) = .slice (some ⟨g, 0, none⟩) rs.length cap' ∧ N ≤ g := by
    rcases h.2 with ⟨_, h0⟩ | ⟨g, cap', cur, hv, hb, _⟩
    · omega
    · exact ⟨g, cap', hv, hb⟩
  obtain ⟨rfl, rfl⟩ : p = some ⟨g, 0, none⟩ ∧ cap = cap' := by injection hv with e1 _ e3; exact ⟨e1, e3⟩
  refine ⟨g, 0, rfl, fun q u hq => ⟨trivial, ?_⟩⟩
  have hjl : q < 6 := by
    rcases Nat.lt_or_ge q 6 with h | h
    · exact h
    · rw [List.getElem?_eq_none (show (cells6 rs[i].1 rs[i].2).length ≤ q from h)] at hq; cases hq
  have := World.ownsRow.cells h (g := g) rfl (i * 6 + q) u (by unfold flatO; rw [flat_get (fun r : Ob × Hd => cells6 r.1 r.2) 6 (fun _ => rfl) rs i q hi hjl]; exact hq)
  rw [Addr.add_lit] at this
  rw [show 0 + i * 6 + q = 0 + (i * 6 + q) by omega]; exact this
end
/-- 'append(l, x)' to such a row, at a step of a region that draws its order. -/
theorem step_app_newO {ops : Array Oper} {o : Oper} {a : Act} {K : Act → World → Prop} {Q : Exit → Act → World → Prop} {E : Prop} (hgd : o.guard = none) (s x : Operand)
    (ho : o.op = .call { callee := .builtin .append, args := #[s, x], argTypes := #[24, 24] })
    {W : World} (N : Nat) (v : Value) (rs : ORow) (hs : a.eval s = v) (hown : OwnO W N v rs) (r : Ob × Hd) (g : Nat) (hb : Blk W g (cells6 r.1 r.2).toArray 27)
    (hx : a.eval x = .slice (some ⟨g, 0, none⟩) 1 1) (hB : N ≤ W.heap.size) (hlen : rs.length ≤ 1099511627776)
    (h : ∀ g' cap w', OwnO w' N (.slice (some ⟨g', 0, none⟩) (rs.length + 1) cap) (rs ++ [r]) → W.grownBy w' v.ownBlock → g' < w'.heap.size → K (a.put o.dst (.slice (some ⟨g', 0, none⟩) (rs.length + 1) cap)) w') :
    if Region.wanted o (yielded ops a.tmps) = true then Oper.wp Try.prog o a W K Q else E := by
  obtain ⟨i0, hi, hz0, hz1, hz2⟩ := info_parts info_obj
  refine step_append_lies _ hgd s x 24 ho N 27 i0 _ 6 88 Try.underlying24 hi hz0 hz1 hz2 rfl (by decide) v rs.length (flatO rs) hs hown ⟨g, 0, none⟩ 1 1 (cells6 r.1 r.2) hx rfl
    ?_ (oneCell6 _ _) (by decide) (by unfold maxLen; omega) (by omega) hB _ rfl ?_
  · intro j u hj
    rw [Addr.add_lit, Nat.zero_add, hb.cell j]
    simpa using hj
  · intro g' cap w' h1 h2 _ h4
    refine h g' cap w' ?_ h2 h4
    unfold OwnO
    rw [List.length_append, show flatO (rs ++ [r]) = flatO rs ++ cells6 r.1 r.2 from flatO_snoc rs r.1 r.2]
    exact h1

set_option maxRecDepth 100000 in
set_option maxHeartbeats 16000000 in
theorem FewF_any (rs : NRow) (p : Option Addr) (c : Nat) (t : Ob) (ht : Hd) (v : Value) (most : Int) (w : World) (h : FileArg w v rs p c t ht) (hf : FileFits 140737488355328 rs t) (h1 : 0 ≤ most) (h2 : most ≤ 4294967296) :
    Calls Try.prog 5 #[v, .int .i64 most] w fun e w' => ∃ b, e = .returned (.bool b) ∧ Kept w w' ∧ (b = true → rs.length ≤ 200) := by
  obtain ⟨rfl, hl0, hnk, hall, hlt, hwt⟩ := h
  have HNK := Lib.hid hnk
  have HLI := Lib.hid (fun r hr => (hall r hr).1)
  have FT := Lib.hid (fun w' (k : Kept w w') => Few_any _ t ht most w' (hlt.kept k) hf.2.2 h1 h2)
  have FA := Lib.hid (fun (q : Option Addr) (cq : Nat) w' (hl : Lies (Cel (fun _ => True) w') (.mk 0 0 0 ⟨#[]⟩ (rs.map (·.1.o)) []) ⟨q, cq, none, 0⟩) => Few_any _ (.mk 0 0 0 ⟨#[]⟩ (rs.map (·.1.o)) []) ⟨q, cq, none, 0⟩ most w' hl (.mk _ _ _ _ _ _ (by decide) (by rw [List.length_map]; exact hf.1) (by decide) (fun y hy => by obtain ⟨r, hr, rfl⟩ := List.mem_map.1 hy; exact hf.2.1 r hr) (fun e he => by cases he) (fun e he => by cases he)) h1 h2)
  obtain ⟨L, hL⟩ : ∃ L, L = rs.length := ⟨_, rfl⟩
  unfold fileV
  rw [List.length_map, ← hL]
  rw [← hL] at hl0
  unfold maxLen at hl0
  obtain ⟨y, hy⟩ : ∃ y, y = decide (0 ≤ few t most 0) := ⟨_, rfl⟩
  rw [← hy] at FT
  have H1 := Lib.hid (In.fresh (In.start w) #[.slice p L c, .int .i64 t.k, .int .i64 t.n, .int .i64 t.f, .string t.s, .slice ht.p t.l.length ht.c, .slice ht.q t.d.length ht.e] 29)
  have HRL := Lib.hid hL
  clear hnk hall hlt hwt hf h1 h2 hy hL
  unfold objV at FT
  obtain ⟨f0, f1, f2, f3, f4, f5, f6⟩ := (H1.out.mem List.mem_cons_self).cells7
  go_enter Try.func5, Try.ntmps5
  cases y with
  | false =>
    go_wp2_with fail
    (with_reducible refine (FT.out _ (In.k H1.out)).mono ?_)
    rintro e w1 ⟨rfl, hk1⟩
    have K1 := Lib.hid ((In.k H1.out).trans hk1)
    clear hk1
    go_wp2_with fail
    go_ret
    exact ⟨false, rfl, K1.out, fun h => by cases h⟩
  | true =>
    by_cases h200 : 200 < L
    · have i1 : (200 : Int) < (L : Int) := by omega
      go_wp2_with fail
      (with_reducible refine (FT.out _ (In.k H1.out)).mono ?_)
      rintro e w1 ⟨rfl, hk1⟩
      have I1 := Lib.hid (H1.out.kept hk1)
      clear hk1 f0 f1 f2 f3 f4 f5 f6
      obtain ⟨f0, f1, f2, f3, f4, f5, f6⟩ := (I1.out.mem List.mem_cons_self).cells7
      go_wp2_with fail
      go_ret
      exact ⟨false, rfl, In.k I1.out, fun h => by cases h⟩
    · have i1 : ¬ (200 : Int) < (L : Int) := by omega
      have HL2 := Lib.hid (show rs.length ≤ 200 by have := HRL.out; omega)
      go_wp2_with fail
      (with_reducible refine (FT.out _ (In.k H1.out)).mono ?_)
      rintro e w1 ⟨rfl, hk1⟩
      have I1 := Lib.hid (H1.out.kept hk1)
      clear hk1 f0 f1 f2 f3 f4 f5 f6
      obtain ⟨f0, f1, f2, f3, f4, f5, f6⟩ := (I1.out.mem List.mem_cons_self).cells7
      have J1 := Lib.hid (In.fresh I1.out #[.int .i64 0, .int .i64 0, .int .i64 0, .string ⟨#[]⟩, .slice none 0 0, .slice none 0 0] 27)
      go_wp2_with fail
      go_loopg [6] L (fun m i wr => ∃ (j : Nat) (q : Option Addr) (cq : Nat), m = L - j ∧ j ≤ L ∧ i = .int .i64 j ∧ In w [(w1.heap.size, #[.int .i64 0, .int .i64 0, .int .i64 0, .string ⟨#[]⟩, .slice q j cq, .slice none 0 0], 27), (w.heap.size, #[.slice p L c, .int .i64 t.k, .int .i64 t.n, .int .i64 t.f, .string t.s, .slice ht.p t.l.length ht.c, .slice ht.q t.d.length ht.e], 29)] wr ∧ Hid (OwnO wr (w1.heap.size + 1) (.slice q j cq) ((rs.take j).map fun r : Nm × Hd => (r.1.o, r.2))))
      case atStart => exact ⟨0, none, 0, by omega, Nat.zero_le _, rfl, J1.out, Lib.hid (OwnO.nil _ _)⟩
      case round =>
        obtain ⟨j, q, cq, hm, hj, rfl, hin, HO⟩ := hrel
        have HI := Lib.hid hin
        have KI := Lib.hid (In.k hin)
        have OM := Lib.hid (hin.mem List.mem_cons_self)
        have FM := Lib.hid (hin.mem (List.mem_cons_of_mem _ List.mem_cons_self))
        have hw1 : w.heap.size < w1.heap.size := (I1.out.mem List.mem_cons_self).lt
        clear hin f0 f1 f2 f3 f4 f5 f6 H1 J1
        obtain ⟨o0, o1, o2, o3, o4, o5⟩ := OM.out.cells6
        have of_ := OM.out.free
        have oz := OM.out.lt
        obtain ⟨f0, f1, f2, f3, f4, f5, f6⟩ := FM.out.cells7
        have fz := FM.out.lt
        by_cases hlt : j < L
        · have j1 : (j : Int) < (L : Int) := by omega
          have j0 : (0 : Int) ≤ (j : Int) := by omega
          have hjr : j < rs.length := by have := HRL.out; omega
          obtain ⟨kb, off, hpp, hkb, -, -, c2, c3, c4, c5, c6, c7⟩ := (HNK.out.kept KI.out).cells j hjr
          have hkw : kb < w.heap.size := by obtain ⟨kb', off', hp', hlt', -⟩ := HNK.out j hjr; rw [hpp] at hp'; injection hp' with hp'; injection hp' with e1 e2; omega
          subst hpp
          have htk : (rs.take (j + 1)).map (fun r : Nm × Hd => (r.1.o, r.2)) = (rs.take j).map (fun r : Nm × Hd => (r.1.o, r.2)) ++ [((rs[j]'hjr).1.o, (rs[j]'hjr).2)] := by rw [List.take_succ_eq_append_getElem hjr, List.map_append]; rfl
          have hll : ((rs.take j).map (fun r : Nm × Hd => (r.1.o, r.2))).length = j := by rw [List.length_map, List.length_take]; omega
          obtain ⟨r, hr⟩ : ∃ r, (rs[j]'hjr) = r := ⟨_, rfl⟩
          rw [hr] at c2 c3 c4 c5 c6 c7 htk
          obtain ⟨⟨xn, xg, xo⟩, ⟨hp, hc, hq, he⟩⟩ := r
          simp only [] at c2 c3 c4 c5 c6 c7 htk
          have HTK := Lib.hid htk
          have HLL := Lib.hid hll
          clear hr htk hll
          have SK := Lib.hid (show ∀ W, Kept wr W → (fun w' => w'.cell? ⟨w1.heap.size, 4, none⟩ = some (.slice q j cq) ∧ w'.cell? ⟨w.heap.size, 0, none⟩ = some (.slice (some ⟨kb, off, none⟩) L c) ∧ w'.cell? ⟨kb, off + j * 8 + 2, none⟩ = some (.int .i64 xo.k) ∧ w'.cell? ⟨kb, off + j * 8 + 3, none⟩ = some (.int .i64 xo.n) ∧ w'.cell? ⟨kb, off + j * 8 + 4, none⟩ = some (.int .i64 xo.f) ∧ w'.cell? ⟨kb, off + j * 8 + 5, none⟩ = some (.string xo.s) ∧ w'.cell? ⟨kb, off + j * 8 + 6, none⟩ = some (.slice hp xo.l.length hc) ∧ w'.cell? ⟨kb, off + j * 8 + 7, none⟩ = some (.slice hq xo.d.length he)) W from fun W k => ⟨(k.cells.1 _ _ oz).trans o4, (k.cells.1 _ _ fz).trans f0, (k.cells.1 _ _ hkb).trans c2, (k.cells.1 _ _ hkb).trans c3, (k.cells.1 _ _ hkb).trans c4, (k.cells.1 _ _ hkb).trans c5, (k.cells.1 _ _ hkb).trans c6, (k.cells.1 _ _ hkb).trans c7⟩)
          have KA := Lib.hid (show Kept wr ((wr.drew).alloc (.cells #[.int .i64 xo.k, .int .i64 xo.n, .int .i64 xo.f, .string xo.s, .slice hp xo.l.length hc, .slice hq xo.d.length he] 27)) from ((Kept.refl wr).drew).allocO _)
          have OA := Lib.hid (show OwnO ((wr.drew).alloc (.cells #[.int .i64 xo.k, .int .i64 xo.n, .int .i64 xo.f, .string xo.s, .slice hp xo.l.length hc, .slice hq xo.d.length he] 27)) (w1.heap.size + 1) (.slice q j cq) ((rs.take j).map fun r : Nm × Hd => (r.1.o, r.2)) from HO.out.kept KA.out)
          have BA := Lib.hid (show Blk ((wr.drew).alloc (.cells #[.int .i64 xo.k, .int .i64 xo.n, .int .i64 xo.f, .string xo.s, .slice hp xo.l.length hc, .slice hq xo.d.length he] 27)) wr.heap.size (cells6 xo ⟨hp, hc, hq, he⟩).toArray 27 from Blk.fresh wr.drew _ _)
          have hsA : w1.heap.size + 1 ≤ ((wr.drew).alloc (.cells #[.int .i64 xo.k, .int .i64 xo.n, .int .i64 xo.f, .string xo.s, .slice hp xo.l.length hc, .slice hq xo.d.length he] 27)).heap.size := by have := KA.out.size; omega
          have hlb : ((rs.take j).map (fun r : Nm × Hd => (r.1.o, r.2))).length ≤ 1099511627776 := by rw [HLL.out]; omega
          have OL := Lib.hid (HO.out.lt)
          have GS := Lib.hid (show ∀ w5, ((wr.drew).alloc (.cells #[.int .i64 xo.k, .int .i64 xo.n, .int .i64 xo.f, .string xo.s, .slice hp xo.l.length hc, .slice hq xo.d.length he] 27)).grownBy w5 (Value.ownBlock (.slice q j cq)) → ∀ b, b < w1.heap.size + 1 → w5.heap[b]? = wr.heap[b]? from fun w5 g b hb =>
            (g.block b (by omega) (fun e => by have := (OL.out b e.symm).1; omega)).trans (KA.out.block b (by omega)))
          clear o0 o1 o2 o3 o4 o5 f1 f2 f3 f4 f5 f6 c2 c3 c4 c5 c6 c7
          go_upto_region 7 with fail
          refine wp_region_until (S := (fun w' => w'.cell? ⟨w1.heap.size, 4, none⟩ = some (.slice q j cq) ∧ w'.cell? ⟨w.heap.size, 0, none⟩ = some (.slice (some ⟨kb, off, none⟩) L c) ∧ w'.cell? ⟨kb, off + j * 8 + 2, none⟩ = some (.int .i64 xo.k) ∧ w'.cell? ⟨kb, off + j * 8 + 3, none⟩ = some (.int .i64 xo.n) ∧ w'.cell? ⟨kb, off + j * 8 + 4, none⟩ = some (.int .i64 xo.f) ∧ w'.cell? ⟨kb, off + j * 8 + 5, none⟩ = some (.string xo.s) ∧ w'.cell? ⟨kb, off + j * 8 + 6, none⟩ = some (.slice hp xo.l.length hc) ∧ w'.cell? ⟨kb, off + j * 8 + 7, none⟩ = some (.slice hq xo.d.length he))) 11 (by kernel_rfl) ?_ (fun hHeld => ?_)
          · exact SK.out _ (Kept.refl wr).drew
          refine wpAnyU_take (i := 0) (oi := ⟨some 26, _, _, _, _, _⟩) (v := ?_) [1, 9, 11] rfl (by kernel_rfl) (by kernel_rfl) (by kernel_rfl) (by kernel_rfl) (fun _ _ _ h => h) (Or.inl ⟨by rfl, ?_⟩) (by assumption) ?_
          rotate_left 1
          · (intro w hSw; (try dsimp only at hSw); go_simp <;> with_reducible rfl)
          try simp only [Act.put, List.setIfInBounds_toArray, List.set_cons_zero, List.set_cons_succ]
          refine wpAnyU_take (i := 1) (oi := ⟨some 27, _, _, _, _, _⟩) (v := ?_) [9, 11] rfl (by kernel_rfl) (by kernel_rfl) (by kernel_rfl) (by kernel_rfl) (fun _ _ _ h => h) (Or.inl ⟨by rfl, ?_⟩) (by assumption) ?_
          rotate_left 1
          · (intro w hSw; (try dsimp only at hSw); go_simp <;> with_reducible rfl)
          try simp only [Act.put, List.setIfInBounds_toArray, List.set_cons_zero, List.set_cons_succ]
          refine wpAnyU_take (i := 2) (oi := ⟨some 28, _, _, _, _, _⟩) (v := ?_) [3, 5, 6, 7, 8, 9, 11] rfl (by kernel_rfl) (by kernel_rfl) (by kernel_rfl) (by kernel_rfl) (fun _ _ _ h => h) (Or.inl ⟨by rfl, ?_⟩) (by assumption) ?_
          rotate_left 1
          · (intro w hSw; (try dsimp only at hSw); go_simp <;> with_reducible rfl)
          try simp only [Act.put, List.setIfInBounds_toArray, List.set_cons_zero, List.set_cons_succ]
          refine wpAnyU_take (i := 3) (oi := ⟨some 29, _, _, _, _, _⟩) (v := ?_) [5, 6, 7, 8, 9, 11] rfl (by kernel_rfl) (by kernel_rfl) (by kernel_rfl) (by kernel_rfl) (fun _ _ _ h => h) (Or.inl ⟨by rfl, ?_⟩) (by assumption) ?_
          rotate_left 1
          · (intro w hSw; (try dsimp only at hSw); go_simp <;> with_reducible rfl)
          try simp only [Act.put, List.setIfInBounds_toArray, List.set_cons_zero, List.set_cons_succ]
          refine wpAnyU_take (i := 4) (oi := ⟨some 30, _, _, _, _, _⟩) (v := ?_) [5, 6, 7, 8, 9, 11] rfl (by kernel_rfl) (by kernel_rfl) (by kernel_rfl) (by kernel_rfl) (fun _ _ _ h => h) (Or.inl ⟨by rfl, ?_⟩) (by assumption) ?_
          rotate_left 1
          · (intro w hSw; (try dsimp only at hSw); go_simp <;> with_reducible rfl)
          try simp only [Act.put, List.setIfInBounds_toArray, List.set_cons_zero, List.set_cons_succ]
          refine wpAnyU_take (i := 5) (oi := ⟨some 31, _, _, _, _, _⟩) (v := ?_) [6, 7, 8, 9, 11] rfl (by kernel_rfl) (by kernel_rfl) (by kernel_rfl) (by kernel_rfl) (fun _ _ _ h => h) (Or.inl ⟨by rfl, ?_⟩) (by assumption) ?_
          rotate_left 1
          · (intro w hSw; (try dsimp only at hSw); go_simp <;> with_reducible rfl)
          try simp only [Act.put, List.setIfInBounds_toArray, List.set_cons_zero, List.set_cons_succ]
          refine wpAnyU_take (i := 6) (oi := ⟨some 32, _, _, _, _, _⟩) (v := ?_) [7, 8, 9, 11] rfl (by kernel_rfl) (by kernel_rfl) (by kernel_rfl) (by kernel_rfl) (fun _ _ _ h => h) (Or.inl ⟨by rfl, ?_⟩) (by assumption) ?_
          rotate_left 1
          · (intro w hSw; (try dsimp only at hSw); go_simp <;> with_reducible rfl)
          try simp only [Act.put, List.setIfInBounds_toArray, List.set_cons_zero, List.set_cons_succ]
          refine wpAnyU_take (i := 7) (oi := ⟨some 33, _, _, _, _, _⟩) (v := ?_) [8, 9, 11] rfl (by kernel_rfl) (by kernel_rfl) (by kernel_rfl) (by kernel_rfl) (fun _ _ _ h => h) (Or.inl ⟨by rfl, ?_⟩) (by assumption) ?_
          rotate_left 1
          · (intro w hSw; (try dsimp only at hSw); go_simp <;> with_reducible rfl)
          try simp only [Act.put, List.setIfInBounds_toArray, List.set_cons_zero, List.set_cons_succ]
          refine wpAnyU_ready (rs := [8]) (by kernel_rfl) (by simp) ?_
          refine AllReadyU.cons (o := ⟨some 34, _, _, _, _, _⟩) rfl (fun K hK => ?_) AllReadyU.nil
          go_simp
          refine hK.out _ _ ?_ (fun hHeld => ?_)
          · exact SK.out _ KA.out
          clear hK K
          try simp only [Act.put, List.setIfInBounds_toArray, List.set_cons_zero, List.set_cons_succ]
          refine wpAnyU_ready (rs := [9]) (by kernel_rfl) (by simp) ?_
          refine AllReadyU.cons (o := ⟨some 35, _, _, _, _, _⟩) rfl (fun K hK => ?_) AllReadyU.nil
          refine step_app_newO (by rfl) _ _ (by rfl) (w1.heap.size + 1) (.slice q j cq) ((rs.take j).map fun r : Nm × Hd => (r.1.o, r.2)) (by rfl) OA.out (xo, ⟨hp, hc, hq, he⟩) wr.heap.size BA.out (by rfl) hsA hlb ?_
          intro g5 cap5 w5 hown5 hg5 hlt5
          have GG := Lib.hid (GS.out w5 hg5)
          have O5 := Lib.hid hown5
          have K5 := Lib.hid (show Kept w w5 from Below.grown (KI.out.trans KA.out) hg5 (by omega) (fun y hy => by have := (OL.out y hy).1; omega))
          have B5 := Lib.hid (show In w [(w1.heap.size, #[.int .i64 0, .int .i64 0, .int .i64 0, .string ⟨#[]⟩, .slice q j cq, .slice none 0 0], 27), (w.heap.size, #[.slice (some ⟨kb, off, none⟩) L c, .int .i64 t.k, .int .i64 t.n, .int .i64 t.f, .string t.s, .slice ht.p t.l.length ht.c, .slice ht.q t.d.length ht.e], 29)] w5 from ⟨K5.out, fun x hx => by
            have hB := HI.out.2 x hx
            have hxl : x.1 < w1.heap.size + 1 := by
              simp only [List.mem_cons, List.not_mem_nil, or_false] at hx
              rcases hx with rfl | rfl <;> simp only [] <;> omega
            exact (GG.out x.1 hxl).trans hB⟩)
          obtain ⟨p0, p1, p2, p3, p4, p5⟩ := (B5.out.mem List.mem_cons_self).cells6
          have pf := (B5.out.mem List.mem_cons_self).free
          have pz := (B5.out.mem List.mem_cons_self).lt
          refine hK.out _ _ ?_ (fun hHeld => ?_)
          · have hgc : ∀ b o', b < w1.heap.size + 1 → w5.cell? ⟨b, o', none⟩ = wr.cell? ⟨b, o', none⟩ := fun b o' hb => World.cell?_of_block (GG.out b hb)
            have S0 := SK.out wr (Kept.refl wr)
            simp only [] at S0
            obtain ⟨s0, s1, s2, s3, s4, s5, s6, s7⟩ := S0
            exact ⟨(hgc _ _ (by omega)).trans s0, (hgc _ _ (by omega)).trans s1, (hgc _ _ (by omega)).trans s2, (hgc _ _ (by omega)).trans s3, (hgc _ _ (by omega)).trans s4, (hgc _ _ (by omega)).trans s5, (hgc _ _ (by omega)).trans s6, (hgc _ _ (by omega)).trans s7⟩
          clear hK K hown5 hg5
          try simp only [Act.put, List.setIfInBounds_toArray, List.set_cons_zero, List.set_cons_succ]
          refine wpAnyU_take (i := 10) (oi := ⟨some 36, _, _, _, _, _⟩) (v := ?_) [11] rfl (by kernel_rfl) (by kernel_rfl) (by kernel_rfl) (by kernel_rfl) (fun _ _ _ h => h) (Or.inl ⟨by rfl, ?_⟩) (by assumption) ?_
          rotate_left 1
          · (intro w hSw; (try dsimp only at hSw); go_simp <;> with_reducible rfl)
          try simp only [Act.put, List.setIfInBounds_toArray, List.set_cons_zero, List.set_cons_succ]
          refine wpAnyU_ready (rs := [11]) (by kernel_rfl) (by simp) ?_
          refine AllReadyU.last (o := ⟨none, _, _, _, _, _⟩) rfl (fun K hK => ?_) AllReadyU.nil
          go_simp
          refine hK.out _ _ ?_
          clear hK K hHeld
          try simp only [Act.put, List.setIfInBounds_toArray, List.set_cons_zero, List.set_cons_succ]
          refine wpAnyU_done (by kernel_rfl) ?_ _
          rw [HLL.out] at O5
          rw [← HTK.out] at O5
          try simp only [HLL.out]
          go_wp2_with fail
          go_roundg (L - (j + 1))
          case measure => omega
          case rel =>
            refine ⟨j + 1, some ⟨g5, 0, none⟩, cap5, rfl, by omega, by go_num, ?_, Lib.hid ?_⟩
            · have hmn : min j rs.length = j := Nat.min_eq_left (by omega)
              have hb5 := (B5.out.mem List.mem_cons_self).set 4 (.slice (some ⟨g5, 0, none⟩) (j + 1) cap5)
              exact In.cons (In.other (In.tail B5.out) (by omega) (fun x hx => by obtain rfl := List.mem_singleton.1 hx; simp only []; omega) _) (by simpa [hmn] using hb5)
            · exact OwnO.gb O5.out (r := some w1.heap.size) (gb_own (gb_refl _ _) _ _) (.inr (fun e => by have := (O5.out.lt _ e).1; omega))
        · obtain rfl : j = L := by omega
          have CA := Lib.hid (FA.out q cq wr (by
            have o2 := HO.out
            rw [List.take_of_length_le (by have := HRL.out; omega)] at o2
            have hlen : (rs.map (fun r : Nm × Hd => (r.1.o, r.2))).length = j := by rw [List.length_map, ← HRL.out]
            rw [← hlen] at o2
            refine .mk 0 0 0 ⟨#[]⟩ _ [] _ (fun i => if hi : i < rs.length then (rs[i]'hi).2 else Hd.none) (fun _ => Hd.none) ⟨by rw [List.length_map]; unfold maxLen; have := HL2.out; omega, by decide, by decide⟩ (fun i hi => ?_) (fun i hi => ?_) (fun _ hi => absurd hi (Nat.not_lt_zero _)) (fun _ hi => absurd hi (Nat.not_lt_zero _)) (fun _ hi => absurd hi (Nat.not_lt_zero _))
            · have hi' : i < rs.length := by simpa using hi
              rw [List.getElem_map, dif_pos hi']
              exact (HLI.out _ (List.getElem_mem hi')).kept KI.out
            · have hi' : i < rs.length := by simpa using hi
              obtain ⟨b, o, hp, hr⟩ := o2.row i (by simpa using hi')
              refine ⟨b, o, hp, ?_⟩
              rw [List.getElem_map, dif_pos hi']
              simpa using hr))
          obtain ⟨y, hy⟩ : ∃ y, y = decide (0 ≤ few (.mk 0 0 0 ⟨#[]⟩ (rs.map (·.1.o)) []) most 0) := ⟨_, rfl⟩
          rw [← hy] at CA
          unfold objV at CA
          simp only [Ob.k, Ob.n, Ob.f, Ob.s, Ob.l, Ob.d, List.length_map, List.length_nil] at CA
          rw [← HRL.out] at CA
          clear hy
          go_wp2_with fail
          (with_reducible refine CA.out.mono ?_)
          rintro e w9 ⟨rfl, hk9⟩
          have K9 := Lib.hid (KI.out.trans hk9)
          clear hk9
          go_wp2_with fail
          go_ret
          exact ⟨_, rfl, K9.out, fun _ => by have := HL2.out; have := HRL.out; omega⟩

end Go.Proofs.Ytakbhdhlcnpejaa
