/-
  Tokens among a law's arguments.
-/
import Derived.Test.YtpplboihlndfpaaDefRow
import Derived.Test.YtpplboihlndfpaaInfArgs
import Derived.Deep.Slices
namespace Go.Proofs.Ytpplboihlndfpaa
open Go.ChangeShapes Go.WideShapes Go.ChangeAt Go.RowKit Dx
set_option linter.unusedSimpArgs false
set_option linter.unusedVariables false

/-- Tokens that came in. -/
def TokArg (w : World) (v : Value) (l : List Tok) : Prop := ∃ p c, v = .slice p l.length c ∧ TokR w w.heap.size p l ∧ l.length ≤ c ∧ l.length ≤ maxLen
theorem cells_tok : Try.prog.cellsOf 38 = 3 := by kernel_rfl
theorem cells_u8t : Try.prog.cellsOf 5 = 1 := by kernel_rfl
theorem cells_i64t : Try.prog.cellsOf 3 = 1 := by kernel_rfl
instance : Inhabited Tok := ⟨⟨0, 0, 0⟩⟩

section
variable {H : Type} {enc : TypeId × Value → H} {W : World} {base : Nat} {sp : Nat → Bool} {held : Bool}
theorem open_tok {fuel : Nat} {cs : List Value} {x : DataW H × List MemPlace} (h : DataW.trod enc Try.prog W base sp held fuel 38 cs = some x) : ∃ t : Tok, cs = tokc t := by
  obtain ⟨xs, n, rfl, rfl, hlen, hxs, hf⟩ := DataW.trod_struct Try.underlying38 h
  rw [cells_tok] at hlen
  match cs, hlen with
  | [c0, c1, c2], _ =>
    match xs, hxs with
    | [y0, y1, y2], _ =>
      have h0 := hf 0 _ rfl
      have h1 := hf 1 _ rfl
      have h2 := hf 2 _ rfl
      simp only [cells_u8t, cells_i64t, List.drop_zero, List.drop_succ_cons, List.take_succ_cons, List.take_zero, List.getElem?_cons_zero, List.getElem?_cons_succ] at h0 h1 h2
      obtain ⟨k, hk, -, wk⟩ := DataW.trod_int Try.underlying5 h0
      obtain ⟨a, ha, -, -⟩ := DataW.trod_int Try.underlying3 h1
      obtain ⟨b, hb, -, -⟩ := DataW.trod_int Try.underlying3 h2
      cases hk; cases ha; cases hb
      have hw := u8_bd wk
      refine ⟨⟨UInt8.ofNat k.toNat, a, b⟩, ?_⟩
      unfold tokc
      have e : ((UInt8.ofNat k.toNat).toNat : Int) = k := by
        rw [UInt8.toNat_ofNat']; omega
      rw [e]

set_option maxRecDepth 100000 in
theorem open_toks {b0 : Nat} {r : Reach} {v : Value} {d : DataW H} {p : List MemPlace} (hval : Value.okWide Try.prog W r b0 30 v) (h1 : DataW.Trod enc Try.prog W base sp held 30 v d p) :
    ∃ l, TokArg W v l := by
  obtain ⟨a1, len, cap, rfl⟩ := okWide_slice Try.underlying30 hval
  obtain ⟨fuel, hf⟩ := h1
  rcases DataW.trod_slice Try.underlying30 hf with ⟨hcs, _⟩ | ⟨a, len', cap', elems, rest, n, rfl, hcs, hx, hb, hlc, hcm, hlen, hel, -, -⟩
  · simp [Value.cells] at hcs
    obtain ⟨rfl, rfl, rfl⟩ := hcs
    exact ⟨[], none, 0, rfl, fun i hi => (by cases hi), Nat.zero_le _, Nat.zero_le _⟩
  · simp [Value.cells] at hcs
    obtain ⟨rfl, rfl, rfl⟩ := hcs
    have one : ∀ i, i < len → ∃ t : Tok, ∀ j, j < 3 → W.cell? ((a.add (i * 3)).add j) = (tokc t)[j]? := fun i hi => by
      have hi' : i < elems.length := by omega
      have key := hel i hi
      rw [cells_tok, List.getElem?_eq_getElem hi'] at key
      obtain ⟨cs', h1, h2⟩ := Option.bind_eq_some_iff.1 key
      obtain ⟨t, rfl⟩ := open_tok h2
      exact ⟨t, (World.cells?_some h1).2.2⟩
    obtain ⟨F, hF⟩ := Go.Deep.choose_lt (α := Tok) one
    have hll : ((List.range len).map F).length = len := by simp
    refine ⟨(List.range len).map F, some a, cap, by rw [hll], fun i hi => ?_, by rw [hll]; omega, by rw [hll]; omega⟩
    have hget : ((List.range len).map F)[i] = F i := by simp
    rw [hll] at hi
    obtain ⟨ab, ao, spot⟩ := a
    have hc := hF i hi
    have h0 := hF 0 (by omega) 0 (by omega)
    have hspot : spot = none := by simpa [Addr.add] using World.cell?_spot h0
    subst hspot
    rw [hget]
    have q0 := hc 0 (by omega)
    have q1 := hc 1 (by omega)
    have q2 := hc 2 (by omega)
    rw [Addr.add_lit, Addr.add_lit] at q0 q1 q2
    exact ⟨ab, ao, rfl, World.block_lt_of_cell? W _ q0, q0, q1, q2⟩
end

end Go.Proofs.Ytpplboihlndfpaa
