/-
  An object among the arguments: it lies in memory as a tree does, and its texts and rows are no longer than all that came in.
-/
import Derived.Test.YtkpagahnmbchjaaGreatDoorCosLies
import Derived.Test.YtkpagahnmbchjaaGreatDoorCosWt
import Derived.Test.YtkpagahnmbchjaaGreatDoorPost
import Derived.Deep.Slices
namespace Go.Proofs.YtkpagahnmbchjaaGreatDoor
open Go.ChangeShapes Go.WideShapes Go.ChangeAt Go.RowKit Cx
set_option linter.unusedSimpArgs false
set_option linter.unusedVariables false

/-- All numbers of an object are whole words. -/
inductive Ob.Words : Ob → Prop
  | mk (k n f : Int) (s : ByteArray) (l : List Ob) (d : List (ByteArray × Ob)) (hk : (Lit.int .i64 k).wf = true) (hn : (Lit.int .i64 n).wf = true) (hf : (Lit.int .i64 f).wf = true) (hL : ∀ i (h : i < l.length), Ob.Words l[i]) (hD : ∀ i (h : i < d.length), Ob.Words d[i].2) : Ob.Words (.mk k n f s l d)

instance : Inhabited Ob := ⟨nul⟩
instance : Inhabited Hd := ⟨Hd.none⟩

section
variable {H : Type} {enc : TypeId × Value → H} {W : World} {base : Nat} {sp : Nat → Bool} {held : Bool}

theorem cells_i : Tryz.prog.cellsOf 3 = 1 := by kernel_rfl

theorem cells_f : Tryz.prog.cellsOf 29 = 1 := by kernel_rfl

theorem cells_s : Tryz.prog.cellsOf 9 = 1 := by kernel_rfl

theorem cells_lo : Tryz.prog.cellsOf 25 = 1 := by kernel_rfl

theorem cells_le : Tryz.prog.cellsOf 30 = 1 := by kernel_rfl

theorem cells_o : Tryz.prog.cellsOf 32 = 6 := by kernel_rfl

theorem cells_e : Tryz.prog.cellsOf 50 = 7 := by kernel_rfl

theorem bytes_o : 0 < Tryz.prog.bytesOf 32 := of_decide_eq_true (by kernel_rfl)

theorem bytes_e : 0 < Tryz.prog.bytesOf 50 := of_decide_eq_true (by kernel_rfl)

/-- What a row of cells reads as: an object. -/
def ReadsO (W : World) (P : Program) {H : Type} (cs : List Value) (x : DataW H) : Prop :=
  ∃ o h, cs = cells6 o h ∧ Lies (Cel (fun _ => True) W) o h ∧ Ob.Words o ∧ ∀ M, (∀ u ∈ x.weights P 32, u ≤ M) → Ob.Fits M o

theorem weights_all {P : Program} {e : TypeId} {M : Nat} : ∀ {l : List (DataW H)}, (∀ u ∈ DataW.weightsAll P e l, u ≤ M) → ∀ x ∈ l, ∀ u ∈ x.weights P e, u ≤ M
  | [], _, x, hx => absurd hx List.not_mem_nil
  | d :: r, h, x, hx => by
    rw [DataW.weightsAll] at h
    rcases List.mem_cons.1 hx with rfl | hx
    · exact fun u hu => h u (List.mem_append.2 (.inl hu))
    · exact weights_all (fun u hu => h u (List.mem_append.2 (.inr hu))) x hx
theorem len_le {n m b M : Nat} (hb : 0 < b) (h : (n + m) * b ≤ M) : n ≤ M := by
  have : n ≤ (n + m) * b := Nat.le_trans (Nat.le_add_right n m) (Nat.le_mul_of_pos_right _ hb)
  omega

set_option maxRecDepth 100000 in
theorem open_rowO {fuel : Nat} {cs : List Value} {x : DataW H × List MemPlace} (ih : ∀ n, n < fuel → ∀ cs (y : DataW H × List MemPlace), DataW.trod enc Tryz.prog W base sp held n 32 cs = some y → ReadsO W Tryz.prog cs y.1)
    (h : DataW.trod enc Tryz.prog W base sp held fuel 25 cs = some x) :
    ∃ (p : Option Addr) (c : Nat) (l : List Ob) (Hh : Nat → Hd), cs = [.slice p l.length c] ∧ l.length ≤ maxLen ∧ (∀ i (hi : i < l.length), Lies (Cel (fun _ => True) W) l[i] (Hh i)) ∧
      (∀ i (hi : i < l.length), ∃ b o, p = some ⟨b, o, none⟩ ∧ RowAt (Cel (fun _ => True) W) b (o + i * 6) (cells6 l[i] (Hh i))) ∧ (∀ i (hi : i < l.length), Ob.Words l[i]) ∧
      ∀ M, (∀ u ∈ x.1.weights Tryz.prog 25, u ≤ M) → l.length ≤ M ∧ ∀ y ∈ l, Ob.Fits M y := by
  rcases DataW.trod_slice Tryz.underlying25 h with ⟨rfl, rfl⟩ | ⟨a, len, cap, elems, rest, n, rfl, rfl, rfl, hb, hlc, hcm, hlen, hel, -, -⟩
  · exact ⟨none, 0, [], fun _ => Hd.none, rfl, Nat.zero_le _, fun _ hi => absurd hi (Nat.not_lt_zero _), fun _ hi => absurd hi (Nat.not_lt_zero _), fun _ hi => absurd hi (Nat.not_lt_zero _), fun M _ => ⟨Nat.zero_le _, fun _ hy => absurd hy List.not_mem_nil⟩⟩
  · have one : ∀ i, i < len → ∃ oh : Ob × Hd, Lies (Cel (fun _ => True) W) oh.1 oh.2 ∧ Ob.Words oh.1 ∧ (∀ j, j < 6 → W.cell? ((a.add (i * 6)).add j) = (cells6 oh.1 oh.2)[j]?) ∧ ∀ M, (∀ hi : i < elems.length, ∀ u ∈ elems[i].1.weights Tryz.prog 32, u ≤ M) → Ob.Fits M oh.1 := fun i hi => by
      have hi' : i < elems.length := by omega
      have key := hel i hi
      rw [cells_o, List.getElem?_eq_getElem hi'] at key
      obtain ⟨cs', h1, h2⟩ := Option.bind_eq_some_iff.1 key
      obtain ⟨o, hh, rfl, hL, hw, hF⟩ := ih n (by omega) cs' _ h2
      exact ⟨(o, hh), hL, hw, (World.cells?_some h1).2.2, fun M hM => hF M (hM hi')⟩
    obtain ⟨F, hF⟩ := Go.Deep.choose_lt (α := Ob × Hd) one
    have hll : ((List.range len).map fun i => (F i).1).length = len := by simp
    have hget : ∀ i (hi : i < ((List.range len).map fun i => (F i).1).length), ((List.range len).map fun i => (F i).1)[i] = (F i).1 := fun i hi => by simp
    refine ⟨some a, cap, (List.range len).map fun i => (F i).1, fun i => (F i).2, by rw [hll], by rw [hll]; omega, fun i hi => ?_, fun i hi => ?_, fun i hi => ?_, fun M hM => ?_⟩
    · rw [hget]; exact (hF i (by omega)).1
    · obtain ⟨ab, ao, spot⟩ := a
      have hc := (hF i (by omega)).2.2.1
      have h0 := (hF 0 (by omega)).2.2.1 0 (by omega)
      have hspot : spot = none := by simpa [Addr.add] using World.cell?_spot h0
      subst hspot
      refine ⟨ab, ao, rfl, fun j v hj => ⟨trivial, ?_⟩⟩
      have hj6 : j < 6 := by
        have := (List.getElem?_eq_some_iff.1 hj).1
        exact this
      have := hc j hj6
      rw [Addr.add_lit, Addr.add_lit] at this
      rw [hget] at hj
      rw [this]; exact hj
    · rw [hget]; exact (hF i (by omega)).2.1
    · rw [DataW.weights, Tryz.underlying25] at hM
      simp only [] at hM
      have h0 := hM _ List.mem_cons_self
      have h1 : ∀ u ∈ DataW.weightsAll Tryz.prog 32 (elems.map (·.1)), u ≤ M := fun u hu => hM u (List.mem_cons_of_mem _ (List.mem_append.2 (.inl hu)))
      have h2 := weights_all h1
      rw [List.length_map] at h0
      refine ⟨by rw [hll, ← hlen]; exact len_le bytes_o h0, fun y hy => ?_⟩
      obtain ⟨i, hi, rfl⟩ := List.mem_map.1 hy
      have hi' := List.mem_range.1 hi
      exact (hF i hi').2.2.2 M fun hi'' => h2 _ (List.mem_map.2 ⟨elems[i], List.getElem_mem hi'', rfl⟩)

/-- What a row of cells reads as: an entry. -/
def ReadsE (W : World) (P : Program) {H : Type} (cs : List Value) (x : DataW H) : Prop :=
  ∃ (e : Entr) (h : Hd), cs = cells7 e h ∧ e.1.size ≤ maxLen ∧ Lies (Cel (fun _ => True) W) e.2 h ∧ Ob.Words e.2 ∧ ∀ M, (∀ u ∈ x.weights P 50, u ≤ M) → e.1.size ≤ M ∧ Ob.Fits M e.2

set_option maxRecDepth 100000 in
theorem open_rowE {fuel : Nat} {cs : List Value} {x : DataW H × List MemPlace} (ih : ∀ n, n < fuel → ∀ cs (y : DataW H × List MemPlace), DataW.trod enc Tryz.prog W base sp held n 50 cs = some y → ReadsE W Tryz.prog cs y.1)
    (h : DataW.trod enc Tryz.prog W base sp held fuel 30 cs = some x) :
    ∃ (p : Option Addr) (c : Nat) (l : List Entr) (Hh : Nat → Hd), cs = [.slice p l.length c] ∧ l.length ≤ maxLen ∧ (∀ i (hi : i < l.length), Lies (Cel (fun _ => True) W) l[i].2 (Hh i)) ∧ (∀ i (hi : i < l.length), l[i].1.size ≤ maxLen) ∧
      (∀ i (hi : i < l.length), ∃ b o, p = some ⟨b, o, none⟩ ∧ RowAt (Cel (fun _ => True) W) b (o + i * 7) (cells7 l[i] (Hh i))) ∧ (∀ i (hi : i < l.length), Ob.Words l[i].2) ∧
      ∀ M, (∀ u ∈ x.1.weights Tryz.prog 30, u ≤ M) → l.length ≤ M ∧ ∀ y ∈ l, y.1.size ≤ M ∧ Ob.Fits M y.2 := by
  rcases DataW.trod_slice Tryz.underlying30 h with ⟨rfl, rfl⟩ | ⟨a, len, cap, elems, rest, n, rfl, rfl, rfl, hb, hlc, hcm, hlen, hel, -, -⟩
  · exact ⟨none, 0, [], fun _ => Hd.none, rfl, Nat.zero_le _, fun _ hi => absurd hi (Nat.not_lt_zero _), fun _ hi => absurd hi (Nat.not_lt_zero _), fun _ hi => absurd hi (Nat.not_lt_zero _), fun _ hi => absurd hi (Nat.not_lt_zero _), fun M _ => ⟨Nat.zero_le _, fun _ hy => absurd hy List.not_mem_nil⟩⟩
  · have one : ∀ i, i < len → ∃ oh : Entr × Hd, Lies (Cel (fun _ => True) W) oh.1.2 oh.2 ∧ Ob.Words oh.1.2 ∧ (∀ j, j < 7 → W.cell? ((a.add (i * 7)).add j) = (cells7 oh.1 oh.2)[j]?) ∧ oh.1.1.size ≤ maxLen ∧ ∀ M, (∀ hi : i < elems.length, ∀ u ∈ elems[i].1.weights Tryz.prog 50, u ≤ M) → oh.1.1.size ≤ M ∧ Ob.Fits M oh.1.2 := fun i hi => by
      have hi' : i < elems.length := by omega
      have key := hel i hi
      rw [cells_e, List.getElem?_eq_getElem hi'] at key
      obtain ⟨cs', h1, h2⟩ := Option.bind_eq_some_iff.1 key
      obtain ⟨o, hh, rfl, hs, hL, hw, hF⟩ := ih n (by omega) cs' _ h2
      exact ⟨(o, hh), hL, hw, (World.cells?_some h1).2.2, hs, fun M hM => hF M (hM hi')⟩
    obtain ⟨F, hF⟩ := Go.Deep.choose_lt (α := Entr × Hd) one
    have hll : ((List.range len).map fun i => (F i).1).length = len := by simp
    have hget : ∀ i (hi : i < ((List.range len).map fun i => (F i).1).length), ((List.range len).map fun i => (F i).1)[i] = (F i).1 := fun i hi => by simp
    refine ⟨some a, cap, (List.range len).map fun i => (F i).1, fun i => (F i).2, by rw [hll], by rw [hll]; omega, fun i hi => ?_, fun i hi => ?_, fun i hi => ?_, fun i hi => ?_, fun M hM => ?_⟩
    · rw [hget]; exact (hF i (by omega)).1
    · rw [hget]; exact (hF i (by omega)).2.2.2.1
    · obtain ⟨ab, ao, spot⟩ := a
      have hc := (hF i (by omega)).2.2.1
      have h0 := (hF 0 (by omega)).2.2.1 0 (by omega)
      have hspot : spot = none := by simpa [Addr.add] using World.cell?_spot h0
      subst hspot
      refine ⟨ab, ao, rfl, fun j v hj => ⟨trivial, ?_⟩⟩
      have hj6 : j < 7 := by
        have := (List.getElem?_eq_some_iff.1 hj).1
        exact this
      have := hc j hj6
      rw [Addr.add_lit, Addr.add_lit] at this
      rw [hget] at hj
      rw [this]; exact hj
    · rw [hget]; exact (hF i (by omega)).2.1
    · rw [DataW.weights, Tryz.underlying30] at hM
      simp only [] at hM
      have h0 := hM _ List.mem_cons_self
      have h1 : ∀ u ∈ DataW.weightsAll Tryz.prog 50 (elems.map (·.1)), u ≤ M := fun u hu => hM u (List.mem_cons_of_mem _ (List.mem_append.2 (.inl hu)))
      have h2 := weights_all h1
      rw [List.length_map] at h0
      refine ⟨by rw [hll, ← hlen]; exact len_le bytes_e h0, fun y hy => ?_⟩
      obtain ⟨i, hi, rfl⟩ := List.mem_map.1 hy
      have hi' := List.mem_range.1 hi
      exact (hF i hi').2.2.2.2 M fun hi'' => h2 _ (List.mem_map.2 ⟨elems[i], List.getElem_mem hi'', rfl⟩)

set_option maxRecDepth 100000 in
/-- Objects and entries at one fuel, out of all that is less. -/
theorem open_objs : ∀ fuel : Nat, (∀ cs (x : DataW H × List MemPlace), DataW.trod enc Tryz.prog W base sp held fuel 32 cs = some x → ReadsO W Tryz.prog cs x.1) ∧ (∀ cs (x : DataW H × List MemPlace), DataW.trod enc Tryz.prog W base sp held fuel 50 cs = some x → ReadsE W Tryz.prog cs x.1) := by
  intro fuel
  induction fuel using Nat.strongRecOn with
  | _ fuel ih =>
    have hO : ∀ cs (x : DataW H × List MemPlace), DataW.trod enc Tryz.prog W base sp held fuel 32 cs = some x → ReadsO W Tryz.prog cs x.1 := by
      intro cs x h
      obtain ⟨xs, n, rfl, rfl, hlen, hxs, hf⟩ := DataW.trod_struct Tryz.underlying32 h
      rw [cells_o] at hlen
      match cs, hlen with
      | [c0, c1, c2, c3, c4, c5], _ =>
        match xs, hxs with
        | [y0, y1, y2, y3, y4, y5], _ =>
          have h0 := hf 0 _ rfl
          have h1 := hf 1 _ rfl
          have h2 := hf 2 _ rfl
          have h3 := hf 3 _ rfl
          have h4 := hf 4 _ rfl
          have h5 := hf 5 _ rfl
          simp only [cells_i, cells_f, cells_s, cells_lo, cells_le, List.drop_zero, List.drop_succ_cons, List.take_succ_cons, List.take_zero, List.getElem?_cons_zero, List.getElem?_cons_succ] at h0 h1 h2 h3 h4 h5
          obtain ⟨k, hk, hk', wk⟩ := DataW.trod_int Tryz.underlying3 h0
          obtain ⟨n', hn, hn', wn⟩ := DataW.trod_int Tryz.underlying3 h1
          obtain ⟨f, hf', hf'', wf⟩ := DataW.trod_int Tryz.underlying29 h2
          obtain ⟨s, hs, hs', ws⟩ := DataW.trod_string Tryz.underlying9 h3
          obtain ⟨p, c, l, Hl, hl, hl0, hl1, hl2, hl3, hl4⟩ := open_rowO (fun m hm => (ih m (by omega)).1) h4
          obtain ⟨q, e, d, Hd', hd, hd0, hd1, hd2, hd3, hd4, hd5⟩ := open_rowE (fun m hm => (ih m (by omega)).2) h5
          cases hk; cases hn; cases hf'; cases hs; cases hl; cases hd
          refine ⟨.mk k n' f s l d, ⟨p, c, q, e⟩, rfl, .mk k n' f s l d ⟨p, c, q, e⟩ Hl Hd' ⟨hl0, hd0, ws⟩ hl1 hl2 hd1 hd2 hd3, .mk k n' f s l d wk wn wf hl3 hd4, fun M hM => ?_⟩
          subst hs'
          rw [DataW.weights, Tryz.underlying32] at hM
          simp only [List.map_cons, List.map_nil, DataW.weightsEach, List.mem_append, DataW.weights] at hM
          have w3 : s.size ≤ M := hM _ (.inr (.inr (.inr (.inl List.mem_cons_self))))
          have w4 := hl4 M fun u hu => hM u (.inr (.inr (.inr (.inr (.inl hu)))))
          have w5 := hd5 M fun u hu => hM u (.inr (.inr (.inr (.inr (.inr (.inl hu))))))
          exact .mk k n' f s l d w3 w4.1 w5.1 w4.2 (fun e he => (w5.2 e he).1) (fun e he => (w5.2 e he).2)
    refine ⟨hO, fun cs x h => ?_⟩
    obtain ⟨xs, n, rfl, rfl, hlen, hxs, hf⟩ := DataW.trod_struct Tryz.underlying50 h
    rw [cells_e] at hlen
    match cs, hlen with
    | [c0, c1, c2, c3, c4, c5, c6], _ =>
      match xs, hxs with
      | [y0, y1], _ =>
        have h0 := hf 0 _ rfl
        have h1 : DataW.trod enc Tryz.prog W base sp held n 32 [c1, c2, c3, c4, c5, c6] = some y1 := by simpa [cells_o] using hf 1 _ rfl
        simp only [cells_s, List.drop_zero, List.take_succ_cons, List.take_zero, List.getElem?_cons_zero] at h0
        obtain ⟨s, hs, hs', ws⟩ := DataW.trod_string Tryz.underlying9 h0
        obtain ⟨o, hh, ho, hL, hw, hF⟩ := (ih n (by omega)).1 _ _ h1
        cases hs
        refine ⟨(s, o), hh, by rw [ho]; rfl, ws, hL, hw, fun M hM => ?_⟩
        subst hs'
        rw [DataW.weights, Tryz.underlying50] at hM
        simp only [List.map_cons, List.map_nil, DataW.weightsEach, List.mem_append] at hM
        exact ⟨hM _ (.inl (by rw [DataW.weights]; exact List.mem_cons_self)), hF M fun u hu => hM u (.inr (.inl hu))⟩

set_option maxRecDepth 100000 in
/-- An object that came in: how it lies, and that it is no longer than what came in. -/
theorem open_obj {b0 : Nat} {r : Reach} {v : Value} {d : DataW H} {p : List MemPlace} (hv : Value.okWide Tryz.prog W r b0 32 v) (h : DataW.Trod enc Tryz.prog W base sp held 32 v d p) :
    ∃ o h, v = objV o h ∧ Lies (Cel (fun _ => True) W) o h ∧ Ob.Words o ∧ ∀ M, (∀ u ∈ d.weights Tryz.prog 32, u ≤ M) → Ob.Fits M o := by
  simp only [Value.okWide, Tryz.underlying32] at hv
  obtain ⟨cs, rfl, -, -⟩ := hv
  obtain ⟨fuel, hf⟩ := h
  obtain ⟨o, hh, he, hL, hw, hF⟩ := (open_objs fuel).1 _ _ hf
  refine ⟨o, hh, ?_, hL, hw, hF⟩
  simp only [Value.cells] at he
  obtain ⟨l⟩ := cs
  simp only at he
  rw [he]; rfl

theorem fits_of {l : List Nat} (h : l.all (· ≤ reachBytes) = true) : ∀ u ∈ l, u ≤ 140737488355328 := fun u hu => by
  have h1 := List.all_eq_true.1 h u hu
  have h2 : u ≤ reachBytes := by simpa using h1
  exact Nat.le_trans h2 (by decide)

end

end Go.Proofs.YtkpagahnmbchjaaGreatDoor
