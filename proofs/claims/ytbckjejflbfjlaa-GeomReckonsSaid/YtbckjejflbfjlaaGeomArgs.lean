/-
  Rectangles and matrices among the arguments.
-/
import Derived.Test.YtbckjejflbfjlaaPost
namespace Go.Proofs.Ytbckjejflbfjlaa
open Go.ChangeShapes Go.WideShapes Go.ChangeAt Go.RowKit

section
variable {H : Type} {enc : TypeId × Value → H} {W : World} {base b0 : Nat} {sp : Nat → Bool} {held : Bool} {r : Reach} {v : Value} {d : DataW H} {p : List MemPlace}
theorem open_rect (hv : Value.okWide Try.prog W r b0 26 v) (h : DataW.Trod enc Try.prog W base sp held 26 v d p) :
    ∃ a b c e : Int, v = .agg #[.int .i64 a, .int .i64 b, .int .i64 c, .int .i64 e] ∧ (Lit.int .i64 a).wf = true ∧ (Lit.int .i64 b).wf = true ∧ (Lit.int .i64 c).wf = true ∧ (Lit.int .i64 e).wf = true := by
  obtain ⟨v0, v1, v2, v3, y0, y1, y2, y3, n, rfl, _, _, h0, h1, h2, h3⟩ := Joins.open_agg4 Try.underlying26 (by kernel_rfl) (by kernel_rfl) hv h
  obtain ⟨a, ha, _, wa⟩ := DataW.trod_int Try.underlying22 h0
  obtain ⟨b, hb, _, wb⟩ := DataW.trod_int Try.underlying22 h1
  obtain ⟨c, hc, _, wc⟩ := DataW.trod_int Try.underlying22 h2
  obtain ⟨e, he, _, we⟩ := DataW.trod_int Try.underlying22 h3
  cases ha; cases hb; cases hc; cases he
  exact ⟨a, b, c, e, rfl, wa, wb, wc, we⟩
theorem open_mat (hv : Value.okWide Try.prog W r b0 24 v) (h : DataW.Trod enc Try.prog W base sp held 24 v d p) :
    ∃ a0 a1 a2 a3 a4 a5 : Int, v = .agg #[.int .i64 a0, .int .i64 a1, .int .i64 a2, .int .i64 a3, .int .i64 a4, .int .i64 a5] ∧ ((Lit.int .i64 a0).wf = true ∧ (Lit.int .i64 a1).wf = true ∧ (Lit.int .i64 a2).wf = true ∧ (Lit.int .i64 a3).wf = true ∧ (Lit.int .i64 a4).wf = true ∧ (Lit.int .i64 a5).wf = true) := by
  simp only [Value.okWide, Try.underlying24] at hv
  obtain ⟨cs, rfl, hsz, _⟩ := hv
  have hC : Try.prog.cellsOf 24 = 6 := by kernel_rfl
  have hE : Try.prog.cellsOf 22 = 1 := by kernel_rfl
  obtain ⟨l⟩ := cs
  match l, hsz.trans hC with
  | [c0, c1, c2, c3, c4, c5], _ =>
    obtain ⟨fuel, hf⟩ := h
    obtain ⟨xs, n, _, _, _, hlen, hg⟩ := DataW.trod_array Try.underlying24 hf
    match xs, hlen with
    | [y0, y1, y2, y3, y4, y5], _ =>
      obtain ⟨a0, h0, _, w0⟩ := DataW.trod_int (cs := [c0]) (x := y0) Try.underlying22 (by simpa [Value.cells, hE] using hg 0 (by omega))
      obtain ⟨a1, h1, _, w1⟩ := DataW.trod_int (cs := [c1]) (x := y1) Try.underlying22 (by simpa [Value.cells, hE] using hg 1 (by omega))
      obtain ⟨a2, h2, _, w2⟩ := DataW.trod_int (cs := [c2]) (x := y2) Try.underlying22 (by simpa [Value.cells, hE] using hg 2 (by omega))
      obtain ⟨a3, h3, _, w3⟩ := DataW.trod_int (cs := [c3]) (x := y3) Try.underlying22 (by simpa [Value.cells, hE] using hg 3 (by omega))
      obtain ⟨a4, h4, _, w4⟩ := DataW.trod_int (cs := [c4]) (x := y4) Try.underlying22 (by simpa [Value.cells, hE] using hg 4 (by omega))
      obtain ⟨a5, h5, _, w5⟩ := DataW.trod_int (cs := [c5]) (x := y5) Try.underlying22 (by simpa [Value.cells, hE] using hg 5 (by omega))
      cases h0; cases h1; cases h2; cases h3; cases h4; cases h5
      exact ⟨a0, a1, a2, a3, a4, a5, rfl, w0, w1, w2, w3, w4, w5⟩
end

end Go.Proofs.Ytbckjejflbfjlaa
