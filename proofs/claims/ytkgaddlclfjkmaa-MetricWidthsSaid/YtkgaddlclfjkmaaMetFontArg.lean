/-
  A font among a law's arguments; whether it may be.
-/
import Derived.Test.YtkgaddlclfjkmaaMetFont
import Derived.Test.YtkgaddlclfjkmaaPost
import Derived.Deep.Slices
import Derived.HandedShaped
namespace Go.Proofs.Ytkgaddlclfjkmaa
open Go.ChangeShapes Go.WideShapes Go.ChangeAt Go.RowKit
set_option linter.unusedSimpArgs false
set_option linter.unusedVariables false

/-- Whole numbers that came in. -/
def IntsA (w : World) (p : Option Addr) (X : List Int) : Prop :=
  ∀ i (h : i < X.length), ∃ k o, p = some ⟨k, o, none⟩ ∧ k < w.heap.size ∧ w.cell? ⟨k, o + i, none⟩ = some (.int .i64 X[i])
/-- A font that came in. -/
def FontArg (w : World) (v : Value) (f : Int) (X : List Int) (o : Int) : Prop :=
  ∃ p c, v = .agg #[.int .i64 f, .slice p X.length c, .int .i64 o] ∧ IntsA w p X ∧ X.length ≤ c ∧ c ≤ maxLen ∧ (-9223372036854775808 ≤ f ∧ f ≤ 9223372036854775807) ∧ (-9223372036854775808 ≤ o ∧ o ≤ 9223372036854775807)
theorem cells_fi : Try.prog.cellsOf 3 = 1 := by kernel_rfl
theorem cells_fs : Try.prog.cellsOf 22 = 1 := by kernel_rfl
theorem cells_ff : Try.prog.cellsOf 24 = 3 := by kernel_rfl

section
variable {H : Type} {enc : TypeId × Value → H} {W : World} {base : Nat} {sp : Nat → Bool} {held : Bool}
set_option maxRecDepth 100000 in
theorem open_fints {fuel : Nat} {cs : List Value} {x : DataW H × List MemPlace} (h : DataW.trod enc Try.prog W base sp held fuel 22 cs = some x) :
    ∃ (p : Option Addr) (c : Nat) (X : List Int), cs = [.slice p X.length c] ∧ IntsA W p X ∧ X.length ≤ c ∧ c ≤ maxLen := by
  rcases DataW.trod_slice Try.underlying22 h with ⟨rfl, rfl⟩ | ⟨a, len, cap, elems, rest, n, rfl, rfl, rfl, hb, hlc, hcm, hlen, hel, -, -⟩
  · exact ⟨none, 0, [], rfl, fun _ hi => absurd hi (Nat.not_lt_zero _), Nat.le_refl _, Nat.zero_le _⟩
  · have one : ∀ i, i < len → ∃ z : Int, W.cell? ((a.add (i * 1)).add 0) = some (.int .i64 z) := fun i hi => by
      have hi' : i < elems.length := by omega
      have key := hel i hi
      rw [cells_fi, List.getElem?_eq_getElem hi'] at key
      obtain ⟨cs', h1, h2⟩ := Option.bind_eq_some_iff.1 key
      have h3 := World.cells?_some h1
      obtain ⟨z, hz, -, -⟩ := DataW.trod_int Try.underlying3 h2
      subst hz
      exact ⟨z, h3.2.2 0 (by decide)⟩
    obtain ⟨F, hF⟩ := Go.Deep.choose_lt (α := Int) one
    have hll : ((List.range len).map F).length = len := by simp
    refine ⟨some a, cap, (List.range len).map F, by rw [hll], fun i hi => ?_, by rw [hll]; exact hlc, hcm⟩
    have hget : ((List.range len).map F)[i] = F i := by simp
    rw [hll] at hi
    obtain ⟨ab, ao, spot⟩ := a
    have hc := hF i hi
    have h0 := hF 0 (by omega)
    have hspot : spot = none := by simpa [Addr.add] using World.cell?_spot h0
    subst hspot
    rw [hget]
    rw [Addr.add_lit, Addr.add_lit] at hc
    simp only [Nat.mul_one, Nat.add_zero] at hc
    exact ⟨ab, ao, rfl, World.block_lt_of_cell? W _ hc, hc⟩

set_option maxRecDepth 100000 in
theorem open_font {b0 : Nat} {r : Reach} {v : Value} {d : DataW H} {p : List MemPlace} (hv : Value.okWide Try.prog W r b0 24 v) (h : DataW.Trod enc Try.prog W base sp held 24 v d p) :
    ∃ f X o, FontArg W v f X o := by
  simp only [Value.okWide, Try.underlying24] at hv
  obtain ⟨cs, rfl, -, -⟩ := hv
  obtain ⟨fuel, hf⟩ := h
  obtain ⟨xs, n, rfl, hd, hlen, hxs, hf⟩ := DataW.trod_struct Try.underlying24 hf
  rw [cells_ff] at hlen
  simp only [Value.cells] at hlen hf
  obtain ⟨l⟩ := cs
  simp only at hlen hf
  match l, hlen with
  | [c0, c1, c2], _ =>
    match xs, hxs with
    | [y0, y1, y2], _ =>
      have h0 := hf 0 _ rfl
      have h1 := hf 1 _ rfl
      have h2 := hf 2 _ rfl
      simp only [cells_fi, cells_fs, List.drop_zero, List.drop_succ_cons, List.take_succ_cons, List.take_zero, List.getElem?_cons_zero, List.getElem?_cons_succ] at h0 h1 h2
      obtain ⟨f, hf0, -, wf⟩ := DataW.trod_int Try.underlying3 h0
      obtain ⟨o, ho0, -, wo⟩ := DataW.trod_int Try.underlying3 h2
      obtain ⟨q, c, X, hc, hX, hlc, hcm⟩ := open_fints h1
      cases hf0; cases ho0; cases hc
      exact ⟨f, X, o, q, c, rfl, hX, hlc, hcm, i64_bd wf, i64_bd wo⟩
end

theorem Mt.fits_of {l : List Nat} (h : l.all (· ≤ reachBytes) = true) : ∀ u ∈ l, u ≤ 140737488355328 := fun u hu => by
  have h1 := List.all_eq_true.1 h u hu
  have h2 : u ≤ reachBytes := by simpa using h1
  exact Nat.le_trans h2 (by decide)

/-- Whether a font may be. -/
def Mt.saneB (f : Int) (X : List Int) (o : Int) : Bool := decide (0 ≤ f) && decide (f ≤ 255) && decide (0 ≤ o) && decide (o ≤ 5000) && decide (X.length ≤ 256) && X.all fun x => decide (0 ≤ x) && decide (x ≤ 5000)
def Mt.ofInts (f : Int) (X : List Int) (o : Int) : Mt.Fo := ⟨f.toNat, X.map Int.toNat, o.toNat⟩
theorem Mt.sane_of {f : Int} {X : List Int} {o : Int} (h : Mt.saneB f X o = true) : (Mt.ofInts f X o).Sane ∧ ((Mt.ofInts f X o).first : Int) = f ∧ ((Mt.ofInts f X o).other : Int) = o ∧ (Mt.ofInts f X o).ws.length = X.length ∧ ∀ i (hi : i < X.length), (((Mt.ofInts f X o).ws[i]'(by simpa [Mt.ofInts] using hi) : Nat) : Int) = X[i] := by
  unfold Mt.saneB at h
  simp only [Bool.and_eq_true, decide_eq_true_eq, List.all_eq_true] at h
  obtain ⟨⟨⟨⟨⟨h1, h2⟩, h3⟩, h4⟩, h5⟩, h6⟩ := h
  refine ⟨⟨by simp only [Mt.ofInts]; omega, by simp only [Mt.ofInts]; omega, by simpa [Mt.ofInts] using h5, ?_⟩, by simp only [Mt.ofInts]; omega, by simp only [Mt.ofInts]; omega, by simp [Mt.ofInts], ?_⟩
  · intro x hx
    obtain ⟨y, hy, rfl⟩ := List.mem_map.1 hx
    have := h6 y hy; omega
  · intro i hi
    have := h6 X[i] (List.getElem_mem hi)
    simp only [Mt.ofInts, List.getElem_map]; omega
theorem NuR.of_ints {w : World} {p : Option Addr} {f : Int} {X : List Int} {o : Int} (h : IntsA w p X) (hs : Mt.saneB f X o = true) : NuR w w.heap.size p (Mt.ofInts f X o).ws := by
  obtain ⟨-, -, -, hl, hx⟩ := Mt.sane_of hs
  intro i hi
  obtain ⟨k, q, h1, h2, h3⟩ := h i (by rw [← hl]; exact hi)
  exact ⟨k, q, h1, h2, by rw [h3, hx]⟩
theorem IntsA.keep {w w' : World} {p : Option Addr} {X : List Int} (h : IntsA w p X) (k : Kept w w') : IntsA w' p X := fun i hi => by
  obtain ⟨b, q, h1, h2, h3⟩ := h i hi
  exact ⟨b, q, h1, Nat.lt_of_lt_of_le h2 (Below.size k), by rw [k.cells.1 _ _ h2]; exact h3⟩

end Go.Proofs.Ytkgaddlclfjkmaa
