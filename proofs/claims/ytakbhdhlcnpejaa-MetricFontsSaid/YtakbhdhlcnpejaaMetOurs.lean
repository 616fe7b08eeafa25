/-
  The law's file of the document's.
-/
import Derived.Test.YtakbhdhlcnpejaaStoN
import Derived.Test.YtakbhdhlcnpejaaStoW
import Derived.Deep.Cut
namespace Go.Proofs.Ytakbhdhlcnpejaa
open Go.RowKit Cx Sx
set_option linter.unusedSimpArgs false
set_option linter.unusedVariables false

set_option maxRecDepth 100000 in
set_option maxHeartbeats 16000000 in
theorem ours13_any (l : List Nm) (p : Option Addr) (c : Nat) (t : Ob) (ht : Hd) (w : World) (h : NmR (fun _ => True) w p l) (hb : l.length ≤ 1048576) :
    Calls Try.prog 10 #[fileV l p c t ht] w fun e w' => ∃ p' c', e = .returned (fileV l p' c' t ht) ∧ Kept w w' ∧ NmR (fun _ => True) w' p' l ∧ (p' = none → c' = 0) := by
  obtain ⟨rs, hrs, hnk, hli⟩ := h.rows
  have HRS := Lib.hid hrs
  have HNK := Lib.hid hnk
  have HLI := Lib.hid hli
  have hLen : rs.length = l.length := by rw [← hrs, List.length_map]
  have H1 := Lib.hid (In.fresh' (k := w.heap.size + 1) (In.fresh (In.start w) #[.slice p l.length c, .int .i64 t.k, .int .i64 t.n, .int .i64 t.f, .string t.s, .slice ht.p t.l.length ht.c, .slice ht.q t.d.length ht.e] 29) #[.slice none 0 0, .int .i64 0, .int .i64 0, .int .i64 0, .string ⟨#[]⟩, .slice none 0 0, .slice none 0 0] 46 (by simp))
  have H2 := Lib.hid (In.fresh' (k := w.heap.size + 1 + 1) H1.out #[.slice none 0 0, .int .i64 t.k, .int .i64 t.n, .int .i64 t.f, .string t.s, .slice ht.p t.l.length ht.c, .slice ht.q t.d.length ht.e] 46 (by simp))
  clear h hrs hnk hli
  unfold fileV
  obtain ⟨f0, f1, f2, f3, f4, f5, f6⟩ := (H1.out.mem (List.mem_cons_of_mem _ List.mem_cons_self)).cells7
  go_enter Try.func10, Try.ntmps10
  go_wp2_with fail
  go_loopg [4] (l.length) (fun m i wr => ∃ (j : Nat) (q : Option Addr) (cq : Nat), m = l.length - j ∧ j ≤ l.length ∧ i = .int .i64 j ∧ In w [(w.heap.size + 1 + 1, #[.slice q j cq, .int .i64 t.k, .int .i64 t.n, .int .i64 t.f, .string t.s, .slice ht.p t.l.length ht.c, .slice ht.q t.d.length ht.e], 46), (w.heap.size + 1, #[.slice none 0 0, .int .i64 0, .int .i64 0, .int .i64 0, .string ⟨#[]⟩, .slice none 0 0, .slice none 0 0], 46), (w.heap.size, #[.slice p l.length c, .int .i64 t.k, .int .i64 t.n, .int .i64 t.f, .string t.s, .slice ht.p t.l.length ht.c, .slice ht.q t.d.length ht.e], 29)] wr ∧ Hid (OwnN 65 wr (w.heap.size + 1 + 1 + 1) (.slice q j cq) (rs.take j)))
  case atStart => exact ⟨0, none, 0, by omega, Nat.zero_le _, rfl, H2.out, Lib.hid (OwnN.nil _ _ _)⟩
  case round =>
    obtain ⟨j, q, cq, hm, hj, rfl, hin, HO⟩ := hrel
    have HI := Lib.hid hin
    have KI := Lib.hid (In.k hin)
    have OM := Lib.hid (hin.mem List.mem_cons_self)
    have RM := Lib.hid (hin.mem (List.mem_cons_of_mem _ List.mem_cons_self))
    have FM := Lib.hid (hin.mem (List.mem_cons_of_mem _ (List.mem_cons_of_mem _ List.mem_cons_self)))
    clear hin f0 f1 f2 f3 f4 f5 f6 H1 H2
    obtain ⟨o0, o1, o2, o3, o4, o5, o6⟩ := OM.out.cells7
    have of_ := OM.out.free
    have oz := OM.out.lt
    obtain ⟨f0, f1, f2, f3, f4, f5, f6⟩ := FM.out.cells7
    have fz := FM.out.lt
    by_cases hlt : j < l.length
    · have j1 : (j : Int) < (l.length : Int) := by omega
      have j0 : (0 : Int) ≤ (j : Int) := by omega
      obtain ⟨kb, off, hpp, hkb, c0, c1, c2, c3, c4, c5, c6, c7⟩ := (HNK.out.kept KI.out).cells j (by omega)
      have hkw : kb < w.heap.size := by obtain ⟨kb', off', hp', hlt', -⟩ := HNK.out j (by omega); rw [hpp] at hp'; injection hp' with hp'; injection hp' with e1 e2; omega
      subst hpp
      have htk : rs.take (j + 1) = rs.take j ++ [rs[j]'(by omega)] := List.take_succ_eq_append_getElem (by omega)
      have hll : (rs.take j).length = j := by rw [List.length_take]; omega
      obtain ⟨r, hr⟩ : ∃ r, rs[j]'(by omega) = r := ⟨_, rfl⟩
      rw [hr] at c0 c1 c2 c3 c4 c5 c6 c7 htk
      obtain ⟨⟨xn, xg, xo⟩, ⟨hp, hc, hq, he⟩⟩ := r
      simp only [] at c0 c1 c2 c3 c4 c5 c6 c7
      have HTK := Lib.hid htk
      have HLL := Lib.hid hll
      clear hr htk hll
      have SK := Lib.hid (show ∀ W, Kept wr W → (fun w' => w'.cell? ⟨w.heap.size + 1 + 1, 0, none⟩ = some (.slice q j cq) ∧ w'.cell? ⟨w.heap.size, 0, none⟩ = some (.slice (some ⟨kb, off, none⟩) l.length c) ∧ w'.cell? ⟨kb, off + j * 8, none⟩ = some (.int .i64 xn) ∧ w'.cell? ⟨kb, off + j * 8 + 1, none⟩ = some (.int .i64 xg) ∧ w'.cell? ⟨kb, off + j * 8 + 2, none⟩ = some (.int .i64 xo.k) ∧ w'.cell? ⟨kb, off + j * 8 + 3, none⟩ = some (.int .i64 xo.n) ∧ w'.cell? ⟨kb, off + j * 8 + 4, none⟩ = some (.int .i64 xo.f) ∧ w'.cell? ⟨kb, off + j * 8 + 5, none⟩ = some (.string xo.s) ∧ w'.cell? ⟨kb, off + j * 8 + 6, none⟩ = some (.slice hp xo.l.length hc) ∧ w'.cell? ⟨kb, off + j * 8 + 7, none⟩ = some (.slice hq xo.d.length he)) W from fun W k => ⟨(k.cells.1 _ _ oz).trans o0, (k.cells.1 _ _ fz).trans f0, (k.cells.1 _ _ hkb).trans c0, (k.cells.1 _ _ hkb).trans c1, (k.cells.1 _ _ hkb).trans c2, (k.cells.1 _ _ hkb).trans c3, (k.cells.1 _ _ hkb).trans c4, (k.cells.1 _ _ hkb).trans c5, (k.cells.1 _ _ hkb).trans c6, (k.cells.1 _ _ hkb).trans c7⟩)
      have KA := Lib.hid (show Kept wr ((wr.drew).alloc (.cells #[.int .i64 xn, .int .i64 xg, .int .i64 xo.k, .int .i64 xo.n, .int .i64 xo.f, .string xo.s, .slice hp xo.l.length hc, .slice hq xo.d.length he] 65)) from ((Kept.refl wr).drew).allocO _)
      have OA := Lib.hid (show OwnN 65 ((wr.drew).alloc (.cells #[.int .i64 xn, .int .i64 xg, .int .i64 xo.k, .int .i64 xo.n, .int .i64 xo.f, .string xo.s, .slice hp xo.l.length hc, .slice hq xo.d.length he] 65)) (w.heap.size + 1 + 1 + 1) (.slice q j cq) (rs.take j) from HO.out.kept KA.out)
      have BA := Lib.hid (show Blk ((wr.drew).alloc (.cells #[.int .i64 xn, .int .i64 xg, .int .i64 xo.k, .int .i64 xo.n, .int .i64 xo.f, .string xo.s, .slice hp xo.l.length hc, .slice hq xo.d.length he] 65)) wr.heap.size (cells8 ⟨xn, xg, xo⟩ ⟨hp, hc, hq, he⟩).toArray 65 from Blk.fresh wr.drew _ _)
      have hsA : w.heap.size + 1 + 1 + 1 ≤ ((wr.drew).alloc (.cells #[.int .i64 xn, .int .i64 xg, .int .i64 xo.k, .int .i64 xo.n, .int .i64 xo.f, .string xo.s, .slice hp xo.l.length hc, .slice hq xo.d.length he] 65)).heap.size := by have := KA.out.size; omega
      have hlb : (rs.take j).length ≤ 1099511627776 := by rw [HLL.out]; omega
      have OL := Lib.hid (HO.out.lt)
      have GS := Lib.hid (show ∀ w5, ((wr.drew).alloc (.cells #[.int .i64 xn, .int .i64 xg, .int .i64 xo.k, .int .i64 xo.n, .int .i64 xo.f, .string xo.s, .slice hp xo.l.length hc, .slice hq xo.d.length he] 65)).grownBy w5 (Value.ownBlock (.slice q j cq)) → ∀ b, b < w.heap.size + 1 + 1 + 1 → w5.heap[b]? = wr.heap[b]? from fun w5 g b hb =>
        (g.block b (by omega) (fun e => by have := (OL.out b e.symm).1; omega)).trans (KA.out.block b (by omega)))
      clear o1 o2 o3 o4 o5 o6 f1 f2 f3 f4 f5 f6 c0 c1 c2 c3 c4 c5 c6 c7
      go_upto_region 5 with fail
      refine wp_region_until (S := (fun w' => w'.cell? ⟨w.heap.size + 1 + 1, 0, none⟩ = some (.slice q j cq) ∧ w'.cell? ⟨w.heap.size, 0, none⟩ = some (.slice (some ⟨kb, off, none⟩) l.length c) ∧ w'.cell? ⟨kb, off + j * 8, none⟩ = some (.int .i64 xn) ∧ w'.cell? ⟨kb, off + j * 8 + 1, none⟩ = some (.int .i64 xg) ∧ w'.cell? ⟨kb, off + j * 8 + 2, none⟩ = some (.int .i64 xo.k) ∧ w'.cell? ⟨kb, off + j * 8 + 3, none⟩ = some (.int .i64 xo.n) ∧ w'.cell? ⟨kb, off + j * 8 + 4, none⟩ = some (.int .i64 xo.f) ∧ w'.cell? ⟨kb, off + j * 8 + 5, none⟩ = some (.string xo.s) ∧ w'.cell? ⟨kb, off + j * 8 + 6, none⟩ = some (.slice hp xo.l.length hc) ∧ w'.cell? ⟨kb, off + j * 8 + 7, none⟩ = some (.slice hq xo.d.length he))) 24 (by kernel_rfl) ?_ (fun hHeld => ?_)
      · exact SK.out _ (Kept.refl wr).drew
      refine wpAnyU_take (i := 0) (oi := ⟨some 15, _, _, _, _, _⟩) (v := ?_) [1, 22, 24] rfl (by kernel_rfl) (by kernel_rfl) (by kernel_rfl) (by kernel_rfl) (fun _ _ _ h => h) (Or.inl ⟨by rfl, ?_⟩) (by assumption) ?_
      rotate_left 1
      · (intro w hSw; (try dsimp only at hSw); go_simp <;> with_reducible rfl)
      try simp only [Act.put, List.setIfInBounds_toArray, List.set_cons_zero, List.set_cons_succ]
      refine wpAnyU_take (i := 1) (oi := ⟨some 16, _, _, _, _, _⟩) (v := ?_) [22, 24] rfl (by kernel_rfl) (by kernel_rfl) (by kernel_rfl) (by kernel_rfl) (fun _ _ _ h => h) (Or.inl ⟨by rfl, ?_⟩) (by assumption) ?_
      rotate_left 1
      · (intro w hSw; (try dsimp only at hSw); go_simp <;> with_reducible rfl)
      try simp only [Act.put, List.setIfInBounds_toArray, List.set_cons_zero, List.set_cons_succ]
      refine wpAnyU_take (i := 2) (oi := ⟨some 17, _, _, _, _, _⟩) (v := ?_) [3, 5, 6, 7, 20, 21, 22, 24] rfl (by kernel_rfl) (by kernel_rfl) (by kernel_rfl) (by kernel_rfl) (fun _ _ _ h => h) (Or.inl ⟨by rfl, ?_⟩) (by assumption) ?_
      rotate_left 1
      · (intro w hSw; (try dsimp only at hSw); go_simp <;> with_reducible rfl)
      try simp only [Act.put, List.setIfInBounds_toArray, List.set_cons_zero, List.set_cons_succ]
      refine wpAnyU_take (i := 3) (oi := ⟨some 18, _, _, _, _, _⟩) (v := ?_) [5, 6, 7, 20, 21, 22, 24] rfl (by kernel_rfl) (by kernel_rfl) (by kernel_rfl) (by kernel_rfl) (fun _ _ _ h => h) (Or.inl ⟨by rfl, ?_⟩) (by assumption) ?_
      rotate_left 1
      · (intro w hSw; (try dsimp only at hSw); go_simp <;> with_reducible rfl)
      try simp only [Act.put, List.setIfInBounds_toArray, List.set_cons_zero, List.set_cons_succ]
      refine wpAnyU_take (i := 4) (oi := ⟨some 19, _, _, _, _, _⟩) (v := ?_) [5, 6, 7, 20, 21, 22, 24] rfl (by kernel_rfl) (by kernel_rfl) (by kernel_rfl) (by kernel_rfl) (fun _ _ _ h => h) (Or.inl ⟨by rfl, ?_⟩) (by assumption) ?_
      rotate_left 1
      · (intro w hSw; (try dsimp only at hSw); go_simp <;> with_reducible rfl)
      try simp only [Act.put, List.setIfInBounds_toArray, List.set_cons_zero, List.set_cons_succ]
      refine wpAnyU_take (i := 5) (oi := ⟨some 20, _, _, _, _, _⟩) (v := ?_) [6, 7, 20, 21, 22, 24] rfl (by kernel_rfl) (by kernel_rfl) (by kernel_rfl) (by kernel_rfl) (fun _ _ _ h => h) (Or.inl ⟨by rfl, ?_⟩) (by assumption) ?_
      rotate_left 1
      · (intro w hSw; (try dsimp only at hSw); go_simp <;> with_reducible rfl)
      try simp only [Act.put, List.setIfInBounds_toArray, List.set_cons_zero, List.set_cons_succ]
      refine wpAnyU_take (i := 6) (oi := ⟨some 21, _, _, _, _, _⟩) (v := ?_) [7, 20, 21, 22, 24] rfl (by kernel_rfl) (by kernel_rfl) (by kernel_rfl) (by kernel_rfl) (fun _ _ _ h => h) (Or.inl ⟨by rfl, ?_⟩) (by assumption) ?_
      rotate_left 1
      · (intro w hSw; (try dsimp only at hSw); go_simp <;> with_reducible rfl)
      try simp only [Act.put, List.setIfInBounds_toArray, List.set_cons_zero, List.set_cons_succ]
      refine wpAnyU_take (i := 7) (oi := ⟨some 22, _, _, _, _, _⟩) (v := ?_) [20, 21, 22, 24] rfl (by kernel_rfl) (by kernel_rfl) (by kernel_rfl) (by kernel_rfl) (fun _ _ _ h => h) (Or.inl ⟨by rfl, ?_⟩) (by assumption) ?_
      rotate_left 1
      · (intro w hSw; (try dsimp only at hSw); go_simp <;> with_reducible rfl)
      try simp only [Act.put, List.setIfInBounds_toArray, List.set_cons_zero, List.set_cons_succ]
      refine wpAnyU_take (i := 8) (oi := ⟨some 23, _, _, _, _, _⟩) (v := ?_) [9, 11, 12, 13, 20, 21, 22, 24] rfl (by kernel_rfl) (by kernel_rfl) (by kernel_rfl) (by kernel_rfl) (fun _ _ _ h => h) (Or.inl ⟨by rfl, ?_⟩) (by assumption) ?_
      rotate_left 1
      · (intro w hSw; (try dsimp only at hSw); go_simp <;> with_reducible rfl)
      try simp only [Act.put, List.setIfInBounds_toArray, List.set_cons_zero, List.set_cons_succ]
      refine wpAnyU_take (i := 9) (oi := ⟨some 24, _, _, _, _, _⟩) (v := ?_) [11, 12, 13, 20, 21, 22, 24] rfl (by kernel_rfl) (by kernel_rfl) (by kernel_rfl) (by kernel_rfl) (fun _ _ _ h => h) (Or.inl ⟨by rfl, ?_⟩) (by assumption) ?_
      rotate_left 1
      · (intro w hSw; (try dsimp only at hSw); go_simp <;> with_reducible rfl)
      try simp only [Act.put, List.setIfInBounds_toArray, List.set_cons_zero, List.set_cons_succ]
      refine wpAnyU_take (i := 10) (oi := ⟨some 25, _, _, _, _, _⟩) (v := ?_) [11, 12, 13, 20, 21, 22, 24] rfl (by kernel_rfl) (by kernel_rfl) (by kernel_rfl) (by kernel_rfl) (fun _ _ _ h => h) (Or.inl ⟨by rfl, ?_⟩) (by assumption) ?_
      rotate_left 1
      · (intro w hSw; (try dsimp only at hSw); go_simp <;> with_reducible rfl)
      try simp only [Act.put, List.setIfInBounds_toArray, List.set_cons_zero, List.set_cons_succ]
      refine wpAnyU_take (i := 11) (oi := ⟨some 26, _, _, _, _, _⟩) (v := ?_) [12, 13, 20, 21, 22, 24] rfl (by kernel_rfl) (by kernel_rfl) (by kernel_rfl) (by kernel_rfl) (fun _ _ _ h => h) (Or.inl ⟨by rfl, ?_⟩) (by assumption) ?_
      rotate_left 1
      · (intro w hSw; (try dsimp only at hSw); go_simp <;> with_reducible rfl)
      try simp only [Act.put, List.setIfInBounds_toArray, List.set_cons_zero, List.set_cons_succ]
      refine wpAnyU_take (i := 12) (oi := ⟨some 27, _, _, _, _, _⟩) (v := ?_) [13, 20, 21, 22, 24] rfl (by kernel_rfl) (by kernel_rfl) (by kernel_rfl) (by kernel_rfl) (fun _ _ _ h => h) (Or.inl ⟨by rfl, ?_⟩) (by assumption) ?_
      rotate_left 1
      · (intro w hSw; (try dsimp only at hSw); go_simp <;> with_reducible rfl)
      try simp only [Act.put, List.setIfInBounds_toArray, List.set_cons_zero, List.set_cons_succ]
      refine wpAnyU_take (i := 13) (oi := ⟨some 28, _, _, _, _, _⟩) (v := ?_) [20, 21, 22, 24] rfl (by kernel_rfl) (by kernel_rfl) (by kernel_rfl) (by kernel_rfl) (fun _ _ _ h => h) (Or.inl ⟨by rfl, ?_⟩) (by assumption) ?_
      rotate_left 1
      · (intro w hSw; (try dsimp only at hSw); go_simp <;> with_reducible rfl)
      try simp only [Act.put, List.setIfInBounds_toArray, List.set_cons_zero, List.set_cons_succ]
      refine wpAnyU_take (i := 14) (oi := ⟨some 29, _, _, _, _, _⟩) (v := ?_) [15, 17, 18, 19, 20, 21, 22, 24] rfl (by kernel_rfl) (by kernel_rfl) (by kernel_rfl) (by kernel_rfl) (fun _ _ _ h => h) (Or.inl ⟨by rfl, ?_⟩) (by assumption) ?_
      rotate_left 1
      · (intro w hSw; (try dsimp only at hSw); go_simp <;> with_reducible rfl)
      try simp only [Act.put, List.setIfInBounds_toArray, List.set_cons_zero, List.set_cons_succ]
      refine wpAnyU_take (i := 15) (oi := ⟨some 30, _, _, _, _, _⟩) (v := ?_) [17, 18, 19, 20, 21, 22, 24] rfl (by kernel_rfl) (by kernel_rfl) (by kernel_rfl) (by kernel_rfl) (fun _ _ _ h => h) (Or.inl ⟨by rfl, ?_⟩) (by assumption) ?_
      rotate_left 1
      · (intro w hSw; (try dsimp only at hSw); go_simp <;> with_reducible rfl)
      try simp only [Act.put, List.setIfInBounds_toArray, List.set_cons_zero, List.set_cons_succ]
      refine wpAnyU_take (i := 16) (oi := ⟨some 31, _, _, _, _, _⟩) (v := ?_) [17, 18, 19, 20, 21, 22, 24] rfl (by kernel_rfl) (by kernel_rfl) (by kernel_rfl) (by kernel_rfl) (fun _ _ _ h => h) (Or.inl ⟨by rfl, ?_⟩) (by assumption) ?_
      rotate_left 1
      · (intro w hSw; (try dsimp only at hSw); go_simp <;> with_reducible rfl)
      try simp only [Act.put, List.setIfInBounds_toArray, List.set_cons_zero, List.set_cons_succ]
      refine wpAnyU_take (i := 17) (oi := ⟨some 32, _, _, _, _, _⟩) (v := ?_) [18, 19, 20, 21, 22, 24] rfl (by kernel_rfl) (by kernel_rfl) (by kernel_rfl) (by kernel_rfl) (fun _ _ _ h => h) (Or.inl ⟨by rfl, ?_⟩) (by assumption) ?_
      rotate_left 1
      · (intro w hSw; (try dsimp only at hSw); go_simp <;> with_reducible rfl)
      try simp only [Act.put, List.setIfInBounds_toArray, List.set_cons_zero, List.set_cons_succ]
      refine wpAnyU_take (i := 18) (oi := ⟨some 33, _, _, _, _, _⟩) (v := ?_) [19, 20, 21, 22, 24] rfl (by kernel_rfl) (by kernel_rfl) (by kernel_rfl) (by kernel_rfl) (fun _ _ _ h => h) (Or.inl ⟨by rfl, ?_⟩) (by assumption) ?_
      rotate_left 1
      · (intro w hSw; (try dsimp only at hSw); go_simp <;> with_reducible rfl)
      try simp only [Act.put, List.setIfInBounds_toArray, List.set_cons_zero, List.set_cons_succ]
      refine wpAnyU_take (i := 19) (oi := ⟨some 34, _, _, _, _, _⟩) (v := ?_) [20, 21, 22, 24] rfl (by kernel_rfl) (by kernel_rfl) (by kernel_rfl) (by kernel_rfl) (fun _ _ _ h => h) (Or.inl ⟨by rfl, ?_⟩) (by assumption) ?_
      rotate_left 1
      · (intro w hSw; (try dsimp only at hSw); go_simp <;> with_reducible rfl)
      try simp only [Act.put, List.setIfInBounds_toArray, List.set_cons_zero, List.set_cons_succ]
      refine wpAnyU_take (i := 20) (oi := ⟨some 35, _, _, _, _, _⟩) (v := ?_) [21, 22, 24] rfl (by kernel_rfl) (by kernel_rfl) (by kernel_rfl) (by kernel_rfl) (fun _ _ _ h => h) (Or.inl ⟨by rfl, ?_⟩) (by assumption) ?_
      rotate_left 1
      · (intro w hSw; (try dsimp only at hSw); go_simp <;> with_reducible rfl)
      try simp only [Act.put, List.setIfInBounds_toArray, List.set_cons_zero, List.set_cons_succ]
      refine wpAnyU_ready (rs := [21]) (by kernel_rfl) (by simp) ?_
      refine AllReadyU.cons (o := ⟨some 36, _, _, _, _, _⟩) rfl (fun K hK => ?_) AllReadyU.nil
      go_simp
      refine hK.out _ _ ?_ (fun hHeld => ?_)
      · exact SK.out _ KA.out
      clear hK K
      try simp only [Act.put, List.setIfInBounds_toArray, List.set_cons_zero, List.set_cons_succ]
      refine wpAnyU_ready (rs := [22]) (by kernel_rfl) (by simp) ?_
      refine AllReadyU.cons (o := ⟨some 37, _, _, _, _, _⟩) rfl (fun K hK => ?_) AllReadyU.nil
      refine step_app_new 65 44 Try.underlying44 (by kernel_rfl) (by rfl) _ _ (by rfl) (w.heap.size + 1 + 1 + 1) (.slice q j cq) (rs.take j) (by rfl) OA.out (⟨xn, xg, xo⟩, ⟨hp, hc, hq, he⟩) wr.heap.size BA.out (by rfl) hsA hlb ?_
      intro g5 cap5 w5 hown5 hg5 hlt5
      have GG := Lib.hid (GS.out w5 hg5)
      have O5 := Lib.hid hown5
      have K5 := Lib.hid (show Kept w w5 from Below.grown (KI.out.trans KA.out) hg5 (by omega) (fun y hy => by have := (OL.out y hy).1; omega))
      have B5 := Lib.hid (show In w [(w.heap.size + 1 + 1, #[.slice q j cq, .int .i64 t.k, .int .i64 t.n, .int .i64 t.f, .string t.s, .slice ht.p t.l.length ht.c, .slice ht.q t.d.length ht.e], 46), (w.heap.size + 1, #[.slice none 0 0, .int .i64 0, .int .i64 0, .int .i64 0, .string ⟨#[]⟩, .slice none 0 0, .slice none 0 0], 46), (w.heap.size, #[.slice (some ⟨kb, off, none⟩) l.length c, .int .i64 t.k, .int .i64 t.n, .int .i64 t.f, .string t.s, .slice ht.p t.l.length ht.c, .slice ht.q t.d.length ht.e], 29)] w5 from ⟨K5.out, fun x hx => by
        have hB := HI.out.2 x hx
        have hxl : x.1 < w.heap.size + 1 + 1 + 1 := by
          simp only [List.mem_cons, List.not_mem_nil, or_false] at hx
          rcases hx with rfl | rfl | rfl <;> simp only [] <;> omega
        exact (GG.out x.1 hxl).trans hB⟩)
      obtain ⟨p0, p1, p2, p3, p4, p5, p6⟩ := (B5.out.mem List.mem_cons_self).cells7
      have pf := (B5.out.mem List.mem_cons_self).free
      have pz := (B5.out.mem List.mem_cons_self).lt
      refine hK.out _ _ ?_ (fun hHeld => ?_)
      · have hgc : ∀ b o', b < w.heap.size + 1 + 1 + 1 → w5.cell? ⟨b, o', none⟩ = wr.cell? ⟨b, o', none⟩ := fun b o' hb => World.cell?_of_block (GG.out b hb)
        have S0 := SK.out wr (Kept.refl wr)
        simp only [] at S0
        obtain ⟨s0, s1, s2, s3, s4, s5, s6, s7, s8, s9⟩ := S0
        exact ⟨(hgc _ _ (by omega)).trans s0, (hgc _ _ (by omega)).trans s1, (hgc _ _ (by omega)).trans s2, (hgc _ _ (by omega)).trans s3, (hgc _ _ (by omega)).trans s4, (hgc _ _ (by omega)).trans s5, (hgc _ _ (by omega)).trans s6, (hgc _ _ (by omega)).trans s7, (hgc _ _ (by omega)).trans s8, (hgc _ _ (by omega)).trans s9⟩
      clear hK K hown5 hg5
      try simp only [Act.put, List.setIfInBounds_toArray, List.set_cons_zero, List.set_cons_succ]
      refine wpAnyU_take (i := 23) (oi := ⟨some 38, _, _, _, _, _⟩) (v := ?_) [24] rfl (by kernel_rfl) (by kernel_rfl) (by kernel_rfl) (by kernel_rfl) (fun _ _ _ h => h) (Or.inl ⟨by rfl, ?_⟩) (by assumption) ?_
      rotate_left 1
      · (intro w hSw; (try dsimp only at hSw); go_simp <;> with_reducible rfl)
      try simp only [Act.put, List.setIfInBounds_toArray, List.set_cons_zero, List.set_cons_succ]
      refine wpAnyU_ready (rs := [24]) (by kernel_rfl) (by simp) ?_
      refine AllReadyU.last (o := ⟨none, _, _, _, _, _⟩) rfl (fun K hK => ?_) AllReadyU.nil
      go_simp
      refine hK.out _ _ ?_
      clear hK K hHeld
      try simp only [Act.put, List.setIfInBounds_toArray, List.set_cons_zero, List.set_cons_succ]
      refine wpAnyU_done (by kernel_rfl) ?_ _
      rw [HLL.out] at O5
      rw [← HTK.out] at O5
      try simp only [HLL.out]
      go_wp2_with fail
      go_roundg (l.length - (j + 1))
      case measure => omega
      case rel =>
        refine ⟨j + 1, some ⟨g5, 0, none⟩, cap5, rfl, by omega, by go_num, ?_, Lib.hid ?_⟩
        · have hn : ∀ x ∈ [(w.heap.size + 1, (#[.slice none 0 0, .int .i64 0, .int .i64 0, .int .i64 0, .string ⟨#[]⟩, .slice none 0 0, .slice none 0 0] : Array Value), 46), (w.heap.size, #[.slice (some ⟨kb, off, none⟩) l.length c, .int .i64 t.k, .int .i64 t.n, .int .i64 t.f, .string t.s, .slice ht.p t.l.length ht.c, .slice ht.q t.d.length ht.e], 29)], x.1 ≠ w.heap.size + 1 + 1 := fun x hx => by
            simp only [List.mem_cons, List.not_mem_nil, or_false] at hx
            rcases hx with rfl | rfl <;> simp only [] <;> omega
          have hb5 := (B5.out.mem List.mem_cons_self).set 0 (.slice (some ⟨g5, 0, none⟩) (j + 1) cap5)
          exact In.cons (In.other (In.tail B5.out) (by omega) hn _) (by simpa using hb5)
        · exact OwnN.gb O5.out (r := some (w.heap.size + 1 + 1)) (gb_own (gb_refl _ _) _ _) (.inr (fun e => by have := (O5.out.lt _ e).1; omega))
    · obtain rfl : j = l.length := by omega
      have HNM := Lib.hid (show NmR (fun b => b ≠ w.heap.size + 1) wr q l from by
        have o2 := HO.out
        rw [List.take_of_length_le (by omega)] at o2
        have o3 : OwnN 65 wr (w.heap.size + 1 + 1 + 1) (.slice q rs.length cq) rs := by rw [hLen]; exact o2
        have := o3.row.nmR (P := fun b => b ≠ w.heap.size + 1) (fun b off e => by subst e; have := (o3.lt b rfl).1; omega) (fun r hr => (HLI.out r hr).keep fun b _ hlt => ⟨by omega, KI.out.below.block b hlt⟩) (by unfold maxLen; omega)
        rwa [HRS.out] at this)
      have HQN := Lib.hid (show q = none → cq = 0 from by
        obtain ⟨p9, c9, e9, h9, -⟩ := HO.out.shape
        injection e9 with e1 _ e3
        subst e1 e3
        exact h9)
      obtain ⟨u0, u1, u2, u3, u4, u5, u6⟩ := RM.out.cells7
      have uf := RM.out.free
      have uz := RM.out.lt
      go_wp2_with fail
      refine bodyPost_ret (v := .agg #[.slice q l.length cq, .int .i64 t.k, .int .i64 t.n, .int .i64 t.f, .string t.s, .slice ht.p t.l.length ht.c, .slice ht.q t.d.length ht.e]) ?_ rfl ⟨q, cq, rfl, ?_, ?_, HQN.out⟩
      · simp [results, Try.results10, go_sem, u0, u1, u2, u3, u4, u5, u6]
      · repeat (with_reducible first | exact KI.out | refine Kept.drew ?_ | refine Kept.set ?_ (by omega) _)
      · refine NmR.weak (P := fun b => b ≠ w.heap.size + 1) ?_ (fun _ _ => trivial)
        refine HNM.out.gb (r := some (w.heap.size + 1)) ?_ (fun b hb e => hb (Option.some.inj e))
        repeat (with_reducible first | exact gb_refl _ _ | refine gb_drew ?_ | refine gb_own ?_ _ _)

end Go.Proofs.Ytakbhdhlcnpejaa
