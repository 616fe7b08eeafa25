/-
  Entries in an array of the call's own: one is put whole, what stands behind is cleared.
-/
import Derived.Test.YtdfgbdonnpbfcaaCosOwnPut
import Derived.Lib.SliceRun
namespace Go.Proofs.Ytdfgbdonnpbfcaa
open Go.RowKit Cx

theorem Blk.cells7 {w : World} {b : Nat} {v0 v1 v2 v3 v4 v5 v6 : Value} {t : TypeId} (h : Blk w b #[v0, v1, v2, v3, v4, v5, v6] t) : w.cell? ⟨b, 0, none⟩ = some v0 ∧ w.cell? ⟨b, 1, none⟩ = some v1 ∧ w.cell? ⟨b, 2, none⟩ = some v2 ∧ w.cell? ⟨b, 3, none⟩ = some v3 ∧ w.cell? ⟨b, 4, none⟩ = some v4 ∧ w.cell? ⟨b, 5, none⟩ = some v5 ∧ w.cell? ⟨b, 6, none⟩ = some v6 :=
  ⟨h.cell 0, h.cell 1, h.cell 2, h.cell 3, h.cell 4, h.cell 5, h.cell 6⟩

theorem Kept.gbOwn {w wx w' : World} {r : Option Nat} (h : Kept w wx) (g : wx.grownBy w' r) (hr : ∀ k, r = some k → w.heap.size ≤ k) : Kept w w' :=
  ⟨g.os.trans h.os, g.tape.trans h.tape, g.output.trans h.output, Nat.le_trans h.size g.size, fun j hj => (g.block j (Nat.lt_of_lt_of_le hj h.size) (fun e => by have := hr j e.symm; omega)).trans (h.block j hj)⟩

theorem mem_zeroCells {z : Array Value} {n : Nat} {u : Value} (h : u ∈ (Builtin.zeroCells z n).toList) : u ∈ z.toList := by
  unfold Builtin.zeroCells at h
  rw [Array.mem_toList_iff, Array.mem_map] at h
  obtain ⟨i, hi, rfl⟩ := h
  rw [Array.mem_range] at hi
  have hz : 0 < z.size := by
    rcases Nat.eq_zero_or_pos z.size with e | e
    · rw [e] at hi; omega
    · exact e
  have hm := Nat.mod_lt i hz
  rw [getElem!_pos z (i % z.size) hm]
  exact Array.getElem_mem_toList hm

theorem run_clear_cells {P : Program} (w : World) (t e ty : TypeId) (z : Value) (ht : P.underlying t = some (.slice e)) (hv : ∀ w, (zeroValue e).run P w = .ok z w) (h1 : ∀ u ∈ z.cells.toList, u.oneCell' = true) (b o n c : Nat) (hn : 0 < n)
    (hc : ∀ j, j < n * z.cells.size → (w.cell? ⟨b, o + j, none⟩).isSome = true) (hf : ∀ j, j < n * z.cells.size → w.frozen? ⟨b, o + j, none⟩ = false) :
    (Builtin.clear_ #[t] ty #[.slice (some ⟨b, o, none⟩) n c]).run P w = .ok (.tuple #[]) (w.setCells b o (Builtin.zeroCells z.cells n).toList) := by
  have hl : (Builtin.zeroCells z.cells n).toList.length = n * z.cells.size := by rw [Array.length_toList, size_zeroCells]
  have hst := run_storeCells_cells (P := P) b o (Builtin.zeroCells z.cells n).toList 0 w (by rw [hl]; simpa using hc) (by rw [hl]; simpa using hf) (fun u hu => h1 u (mem_zeroCells hu))
  simp only [Nat.add_zero] at hst
  obtain ⟨m, rfl⟩ : ∃ m, n = m + 1 := ⟨n - 1, by omega⟩
  simp [Builtin.clear_, run_underlying ht, hv, hst]

theorem setCells_row (g : Nat) (e : TypeId) : ∀ (vs : List Value) (o : Nat) (w : World) (cur : Array Value), w.heap[g]? = some (.cells cur e (0, 0)) →
    ∃ cur', (w.setCells g o vs).heap[g]? = some (.cells cur' e (0, 0)) ∧ cur'.size = cur.size ∧ ∀ k, k ≤ o → cur'.toList.take k = cur.toList.take k
  | [], _, _, cur, h => ⟨cur, h, rfl, fun _ _ => rfl⟩
  | v :: r, o, w, cur, h => by
    obtain ⟨c', h1, h2, h3⟩ := setCells_row g e r (o + 1) (w.setCell ⟨g, o, none⟩ v) _ (heap_setCell_same w g o cur e v h)
    refine ⟨c', h1, by rw [h2, Array.size_setIfInBounds], fun k hk => ?_⟩
    rw [h3 k (by omega), Array.toList_setIfInBounds, List.take_set, List.set_eq_of_length_le]
    rw [List.length_take]; omega
theorem setCells_gb (g : Nat) : ∀ (vs : List Value) (o : Nat) (w : World), w.grownBy (w.setCells g o vs) (some g)
  | [], _, w => gb_refl w _
  | v :: r, o, w => by
    have g1 : w.grownBy (w.setCell ⟨g, o, none⟩ v) (some g) := ⟨rfl, rfl, rfl, by simp, fun k _ hk => heap_setCell_other w ⟨g, o, none⟩ k v (fun e => hk (by simp [e]))⟩
    have g2 := setCells_gb g r (o + 1) (w.setCell ⟨g, o, none⟩ v)
    exact ⟨g2.os.trans g1.os, g2.tape.trans g1.tape, g2.output.trans g1.output, Nat.le_trans g1.size g2.size, fun k hk hne => (g2.block k (Nat.lt_of_lt_of_le hk g1.size) hne).trans (g1.block k hk hne)⟩

theorem flat_take {α : Type} (K : Kind α) : ∀ (rows : List α) (i : Nat), K.flat (rows.take i) = (K.flat rows).take (i * K.size)
  | [], i => by simp [Kind.flat]
  | a :: r, 0 => by simp [Kind.flat]
  | a :: r, i + 1 => by
    have ih := flat_take K r i
    unfold Kind.flat at ih ⊢
    have e : (K.cells a).take ((i + 1) * K.size) = K.cells a := List.take_of_length_le (by rw [K.len, Nat.succ_mul]; omega)
    rw [List.take_succ_cons, List.flatMap_cons, List.flatMap_cons, ih, List.take_append, K.len, show (i + 1) * K.size - K.size = i * K.size by rw [Nat.succ_mul]; omega, e]

theorem OwnP.clear {P : Nat → Prop} {N : Nat} {w : World} {g cap : Nat} {acc : List (Entr × Hd)} (h : OwnP KE P N w (.slice (some ⟨g, 0, none⟩) acc.length cap) acc) (i : Nat) (hi : i ≤ acc.length) (vs : List Value) :
    OwnP KE P N (w.setCells g (i * 7) vs) (.slice (some ⟨g, 0, none⟩) i cap) (acc.take i) := by
  have hg := (h.own.lt g rfl).1
  have hb := setCells_gb g vs (i * 7) w
  have hlen : (acc.take i).length = i := by rw [List.length_take]; omega
  refine ⟨?_, fun r hr => (h.lies r (List.mem_of_mem_take hr)).keep fun b hb' hlt => ⟨hb', hb.block b hlt (fun e => by injection e with e; have := hb'.2; omega)⟩, Nat.le_trans h.base hb.size⟩
  have hfl := (flat_len KE.cells KE.size KE.len (acc.take i))
  refine ⟨hfl, .inr ?_⟩
  rcases h.own.2 with ⟨h', _⟩ | ⟨g', cap', cur, h', h1, h2, h3, h4, h5, h6⟩
  · cases h'
  · injection h' with e1 _ e3
    injection e1 with e1
    injection e1 with e1
    subst e1
    subst e3
    obtain ⟨cur', c1, c2, c3⟩ := setCells_row g _ vs (i * 7) w cur h2
    refine ⟨g, cap, cur', by rw [hlen], h1, c1, by rw [hlen]; omega, h4, by rw [c2, h5], ?_⟩
    rw [hlen, c3 (i * KE.size) (Nat.le_refl (i * 7)), flat_take, ← h6, List.take_take]
    congr 1
    have : i * KE.size ≤ acc.length * KE.size := Nat.mul_le_mul_right _ hi
    omega

theorem zero_ent (w : World) : (zeroValue 34).run Try.prog w = .ok (.agg #[.string ⟨#[]⟩, .int .i64 0, .int .i64 0, .int .i64 0, .string ⟨#[]⟩, .slice none 0 0, .slice none 0 0]) w := by kernel_rfl

set_option maxRecDepth 100000 in
theorem run_clear_entP {W : World} {P : Nat → Prop} {N g cap n : Nat} {acc : List (Entr × Hd)} (hown : OwnP KE P N W (.slice (some ⟨g, 0, none⟩) n cap) acc) (hn : n = acc.length) (i m c' : Nat) (hi : i < acc.length) (hm : m = n - i) :
    ∃ Z, ∀ ty, (Builtin.clear_ #[24] ty #[.slice (some ⟨g, i * 7, none⟩) m c']).run Try.prog W = .ok (.tuple #[]) (W.setCells g (i * 7) Z) := by
  subst hn
  subst hm
  refine ⟨_, fun ty => run_clear_cells (P := Try.prog) W 24 34 ty _ Try.underlying24 zero_ent (by intro u hu; revert u; decide) g (i * 7) (acc.length - i) c' (by omega)
    (fun j hj => by
      have hj' : j < (acc.length - i) * 7 := hj
      have hlt : i * 7 + j < acc.length * 7 := by omega
      have := hown.own.cellAt (i * 7 + j) hlt
      rw [this, Option.isSome_iff_exists]
      have hl := hown.own.1
      exact ⟨_, List.getElem?_eq_getElem (by rw [hl]; exact hlt)⟩) (fun j _ => hown.own.frozenAt _)⟩

theorem flat_setW (e : Entr) (h : Hd) : ∀ (rows : List (Entr × Hd)) (i : Nat),
    KE.flat (rows.set i (e, h)) = (((((((KE.flat rows).set (i * 7) (.string e.1)).set (i * 7 + 1) (.int .i64 e.2.k)).set (i * 7 + 2) (.int .i64 e.2.n)).set (i * 7 + 3) (.int .i64 e.2.f)).set (i * 7 + 4) (.string e.2.s)).set (i * 7 + 5) (.slice h.p e.2.l.length h.c)).set (i * 7 + 6) (.slice h.q e.2.d.length h.e)
  | [], _ => by simp [Kind.flat]
  | a :: r, 0 => rfl
  | a :: r, i + 1 => by
    have ih := flat_setW e h r i
    have e1 : ∀ q, (i + 1) * 7 + q = i * 7 + q + 1 + 1 + 1 + 1 + 1 + 1 + 1 := fun q => by omega
    have e0 : (i + 1) * 7 = i * 7 + 1 + 1 + 1 + 1 + 1 + 1 + 1 := by omega
    rw [e1 1, e1 2, e1 3, e1 4, e1 5, e1 6, e0]
    show cells7 a.1 a.2 ++ KE.flat (r.set i (e, h)) = _
    rw [ih]
    rfl

theorem OwnP.putW {P : Nat → Prop} {N : Nat} {w : World} {g cap : Nat} {acc : List (Entr × Hd)} (h : OwnP KE P N w (.slice (some ⟨g, 0, none⟩) acc.length cap) acc) (i : Nat) (e : Entr) (d : Hd) (hx : Lies (Cel (fun b => P b ∧ b < N) w) e.2 d) :
    OwnP KE P N (((((((w.setCell ⟨g, i * 7, none⟩ (.string e.1)).setCell ⟨g, i * 7 + 1, none⟩ (.int .i64 e.2.k)).setCell ⟨g, i * 7 + 2, none⟩ (.int .i64 e.2.n)).setCell ⟨g, i * 7 + 3, none⟩ (.int .i64 e.2.f)).setCell ⟨g, i * 7 + 4, none⟩ (.string e.2.s)).setCell ⟨g, i * 7 + 5, none⟩ (.slice d.p e.2.l.length d.c)).setCell ⟨g, i * 7 + 6, none⟩ (.slice d.q e.2.d.length d.e)) (.slice (some ⟨g, 0, none⟩) acc.length cap) (acc.set i (e, d)) ∧
    w.grownBy (((((((w.setCell ⟨g, i * 7, none⟩ (.string e.1)).setCell ⟨g, i * 7 + 1, none⟩ (.int .i64 e.2.k)).setCell ⟨g, i * 7 + 2, none⟩ (.int .i64 e.2.n)).setCell ⟨g, i * 7 + 3, none⟩ (.int .i64 e.2.f)).setCell ⟨g, i * 7 + 4, none⟩ (.string e.2.s)).setCell ⟨g, i * 7 + 5, none⟩ (.slice d.p e.2.l.length d.c)).setCell ⟨g, i * 7 + 6, none⟩ (.slice d.q e.2.d.length d.e)) (some g) := by
  have hg := (h.own.lt g rfl).1
  have s0 := h.own.stored (i * 7) (.string e.1)
  have s1 := s0.1.stored (i * 7 + 1) (.int .i64 e.2.k)
  have s2 := s1.1.stored (i * 7 + 2) (.int .i64 e.2.n)
  have s3 := s2.1.stored (i * 7 + 3) (.int .i64 e.2.f)
  have s4 := s3.1.stored (i * 7 + 4) (.string e.2.s)
  have s5 := s4.1.stored (i * 7 + 5) (.slice d.p e.2.l.length d.c)
  have s6 := s5.1.stored (i * 7 + 6) (.slice d.q e.2.d.length d.e)
  have tr : ∀ {a b c : World}, a.grownBy b (some g) → b.grownBy c (some g) → a.grownBy c (some g) := fun g1 g2 =>
    ⟨g2.os.trans g1.os, g2.tape.trans g1.tape, g2.output.trans g1.output, Nat.le_trans g1.size g2.size, fun k hk hne => (g2.block k (Nat.lt_of_lt_of_le hk g1.size) hne).trans (g1.block k hk hne)⟩
  have G := tr (tr (tr (tr (tr (tr s0.2 s1.2) s2.2) s3.2) s4.2) s5.2) s6.2
  refine ⟨⟨?_, fun r hr => ?_, Nat.le_trans h.base G.size⟩, G⟩
  · rw [flat_setW, List.length_set]; exact s6.1
  · have keep : ∀ {o : Ob} {e : Hd}, Lies (Cel (fun b => P b ∧ b < N) w) o e → Lies (Cel (fun b => P b ∧ b < N) _) o e := fun hl => hl.keep fun b hb hlt => ⟨hb, G.block b hlt (fun e => by injection e with e; have := hb.2; omega)⟩
    rcases List.mem_or_eq_of_mem_set hr with hr | rfl
    · exact keep (h.lies r hr)
    · exact keep hx

end Go.Proofs.Ytdfgbdonnpbfcaa
