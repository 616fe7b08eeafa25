/-
  Entries among a law's arguments.
-/
import Derived.Test.YtoablpaehhjchaaGreatDoorXrfMerge
import Derived.Test.YtoablpaehhjchaaGreatDoorPost
import Derived.Deep.Slices
namespace Go.Proofs.YtoablpaehhjchaaGreatDoor
open Go.ChangeShapes Go.WideShapes Go.ChangeAt Go.RowKit Rx
set_option linter.unusedSimpArgs false
set_option linter.unusedVariables false

/-- An entry's numbers are of 64 bits. -/
def Wf3 (e : Xent) : Prop := Wf e ∧ e.off ≤ 9223372036854775807 ∧ e.gen ≤ 9223372036854775807
/-- Entries that came in. -/
def EntArg (w : World) (v : Value) (l : List Xent) : Prop := ∃ p c, v = .slice p l.length c ∧ Sl w p c l ∧ l.length ≤ maxLen ∧ ∀ e ∈ l, Wf3 e
theorem cells_xent : Tryz.prog.cellsOf 65 = 4 := by kernel_rfl
theorem cells_i64x : Tryz.prog.cellsOf 3 = 1 := by kernel_rfl
theorem cells_boolx : Tryz.prog.cellsOf 4 = 1 := by kernel_rfl

section
variable {H : Type} {enc : TypeId × Value → H} {W : World} {base : Nat} {sp : Nat → Bool} {held : Bool}
set_option maxRecDepth 100000 in
theorem open_xent {fuel : Nat} {cs : List Value} {x : DataW H × List MemPlace} (h : DataW.trod enc Tryz.prog W base sp held fuel 65 cs = some x) : ∃ t : Xent, cs = entc t ∧ Wf3 t := by
  obtain ⟨xs, n, rfl, rfl, hlen, hxs, hf⟩ := DataW.trod_struct Tryz.underlying65 h
  rw [cells_xent] at hlen
  match cs, hlen with
  | [c0, c1, c2, c3], _ =>
    match xs, hxs with
    | [y0, y1, y2, y3], _ =>
      have h0 := hf 0 _ rfl
      have h1 := hf 1 _ rfl
      have h2 := hf 2 _ rfl
      have h3 := hf 3 _ rfl
      simp only [cells_boolx, cells_i64x, List.drop_zero, List.drop_succ_cons, List.take_succ_cons, List.take_zero, List.getElem?_cons_zero, List.getElem?_cons_succ] at h0 h1 h2 h3
      obtain ⟨a, ha, -, wa⟩ := DataW.trod_int Tryz.underlying3 h0
      obtain ⟨b, hb, -, wb⟩ := DataW.trod_int Tryz.underlying3 h1
      obtain ⟨c, hc, -, wc⟩ := DataW.trod_int Tryz.underlying3 h2
      obtain ⟨d, hd, -⟩ := DataW.trod_bool Tryz.underlying4 h3
      cases ha; cases hb; cases hc; cases hd
      exact ⟨⟨a, b, c, d⟩, rfl, i64_bd wa, (i64_bd wb).2, (i64_bd wc).2⟩

set_option maxRecDepth 100000 in
theorem open_xents {b0 : Nat} {r : Reach} {v : Value} {d : DataW H} {p : List MemPlace} (hval : Value.okWide Tryz.prog W r b0 22 v) (h1 : DataW.Trod enc Tryz.prog W base sp held 22 v d p) :
    ∃ l, EntArg W v l := by
  obtain ⟨a1, len, cap, rfl⟩ := okWide_slice Tryz.underlying22 hval
  obtain ⟨fuel, hf⟩ := h1
  rcases DataW.trod_slice Tryz.underlying22 hf with ⟨hcs, _⟩ | ⟨a, len', cap', elems, rest, n, rfl, hcs, hx, hb, hlc, hcm, hlen, hel, -, -⟩
  · simp [Value.cells] at hcs
    obtain ⟨rfl, rfl, rfl⟩ := hcs
    exact ⟨[], none, 0, rfl, ⟨EntR.none _ _ _, fun _ => rfl, Nat.le_refl _⟩, Nat.zero_le _, fun e he => by cases he⟩
  · simp [Value.cells] at hcs
    obtain ⟨rfl, rfl, rfl⟩ := hcs
    have one : ∀ i, i < len → ∃ t : Xent, (∀ j, j < 4 → W.cell? ((a.add (i * 4)).add j) = (entc t)[j]?) ∧ Wf3 t := fun i hi => by
      have hi' : i < elems.length := by omega
      have key := hel i hi
      rw [cells_xent, List.getElem?_eq_getElem hi'] at key
      obtain ⟨cs', h1, h2⟩ := Option.bind_eq_some_iff.1 key
      obtain ⟨t, rfl, hw⟩ := open_xent h2
      exact ⟨t, (World.cells?_some h1).2.2, hw⟩
    obtain ⟨F, hF⟩ := Go.Deep.choose_lt (α := Xent) one
    have hll : ((List.range len).map F).length = len := by simp
    refine ⟨(List.range len).map F, some a, cap, by rw [hll], ⟨fun i hi => ?_, fun e => (by cases e), by rw [hll]; omega⟩, by rw [hll]; omega, fun e he => ?_⟩
    · have hget : ((List.range len).map F)[i] = F i := by simp
      rw [hll] at hi
      obtain ⟨ab, ao, spot⟩ := a
      have hc := (hF i hi).1
      have h0 := (hF 0 (by omega)).1 0 (by omega)
      have hspot : spot = none := by simpa [Addr.add] using World.cell?_spot h0
      subst hspot
      rw [hget]
      have q0 := hc 0 (by omega)
      have q1 := hc 1 (by omega)
      have q2 := hc 2 (by omega)
      have q3 := hc 3 (by omega)
      rw [Addr.add_lit, Addr.add_lit] at q0 q1 q2 q3
      exact ⟨ab, ao, rfl, World.block_lt_of_cell? W _ q0, q0, q1, q2, q3⟩
    · obtain ⟨i, hi, rfl⟩ := List.mem_map.1 he
      exact (hF i (List.mem_range.1 hi)).2
end

end Go.Proofs.YtoablpaehhjchaaGreatDoor
