/-
  From a row's listed variables to what the walks ask of the world ('Fine'); a world in which the listed variables lie as they are listed; and how a law's post follows from 'Kept'.
-/
import Derived.Test.YtikkpfaeenekbaaDoorKept
import Derived.Test.YtikkpfaeenekbaaDoorShelf
import Derived.Test.YtikkpfaeenekbaaDoorCards
import Derived.Test.YtikkpfaeenekbaaDoorTie
import Derived.ProofKit
import Derived.OpenShut
import Derived.Carry
import Derived.ShutString
import Derived.Deep.DeepHandedRow
import Derived.Stop.LaidErr
namespace Go.Proofs.YtikkpfaeenekbaaDoor
open Go.ChangeShapes Go.WideShapes Go.ChangeAt Go.RowKit

theorem own : ownKnob Tryd.prog.godebug = none := by kernel_rfl
theorem laidOut : laidOutB Tryd.prog = true := by kernel_rfl

/-- What the rows of this seat list. -/
def seatLaid : List (String × DataW Unit) := [("math/bits.deBruijn32tab", Rows.laid_math_bits_deBruijn32tab), ("math/bits.deBruijn64tab", Rows.laid_math_bits_deBruijn64tab), ("internal/strconv.uint64pow10", Rows.laid_internal_strconv_uint64pow10), ("unicode/utf8.acceptRanges", Rows.laid_unicode_utf8_acceptRanges), ("unicode/utf8.first", Rows.laid_unicode_utf8_first)]

theorem powNamed : Tryd.prog.globalNamed "internal/strconv.uint64pow10" = some 1 := by kernel_rfl
theorem powType : (Tryd.prog.globals[1]?).map (·.type) = some 79 := by kernel_rfl
theorem powCells : Tryd.prog.cellsOf 79 = 20 := by kernel_rfl
theorem powCell : Tryd.prog.cellsOf 65 = 1 := by kernel_rfl
theorem powData : Rows.laid_internal_strconv_uint64pow10 (H := Unit) = Lib.tabData .u64 Lib.pow10Tab := by kernel_rfl

/-- The row's list and the world's shape give what the walks ask. -/
theorem fine_of {W : World} (hL : laidMetH Tryd.prog seatLaid W) (hsh : W.ShapedOpen Tryd.prog) : Fine W := by
  refine ⟨Tryd.laysM145.s1_3 W hsh, ?_⟩
  have h : laidMet Tryd.prog seatLaid W := hL
  have h3 := (laidMet.tail (laidMet.tail h))
  rw [powData] at h3
  exact Lib.tabIs_of_head powNamed powType Tryd.underlying79 Tryd.underlying65 powCell powCells h3

/-- A datum of numbers, cell by cell. -/
def flatOf : Nat → DataW Unit → List Value
  | _, .lit (.int k z) => [.int k z]
  | n + 1, .agg ds => ds.flatMap (flatOf n)
  | _, _ => []
/-- The heap with a listed variable's block as it is listed. -/
noncomputable def layIn (h : Array Obj) (x : String × DataW Unit) : Array Obj :=
  match Tryd.prog.globalNamed x.1 with
  | some g => h.modify g fun
    | .cells _ t frozen => .cells (flatOf 4 x.2).toArray t frozen
    | o => o
  | none => h
/-- A world for the witness. -/
noncomputable def laidWorld (os : Os) : World :=
  { World.holding Tryd.prog os ⟨#[], #[], []⟩ with heap := seatLaid.foldl layIn (World.holding Tryd.prog os ⟨#[], #[], []⟩).heap }

section
variable {H : Type} {enc : TypeId × Value → H}
theorem trodAll_below {W W' : World} (hb : Below W.heap.size W W') : ∀ {ts : List TypeId} {vs : List Value} {ds : List (DataW H)} {ps : List MemPlace},
    (ts.all fun t => Tryd.prog.readableRec t && decide (t < Tryd.prog.types.size)) = true → DataW.TrodAll enc Tryd.prog W 0 (fun _ => true) true ts vs ds ps → (∀ x ∈ ps, x.block < W.heap.size) →
    DataW.TrodAll enc Tryd.prog W' 0 (fun b => decide (b < W.heap.size)) true ts vs ds ps := by
  intro ts
  induction ts with
  | nil =>
    intro vs ds ps _ h _
    obtain ⟨rfl, rfl, rfl⟩ := trodAll_nil h
    exact trodAll_mk0
  | cons t ts ih =>
    intro vs ds ps hr h hlt
    obtain ⟨v, vs', d, ds', p, q, rfl, rfl, rfl, h1, h2⟩ := trodAll_cons h
    rw [List.all_cons, Bool.and_eq_true, Bool.and_eq_true, decide_eq_true_eq] at hr
    exact trodAll_cons_mk (Below.trod laidOut hr.1.1 hr.1.2 h1 hb fun x hx => hlt x (List.mem_append.2 (.inl hx))) (ih hr.2 h2 fun x hx => hlt x (List.mem_append.2 (.inr hx)))

/-- A law that answered true and left what was there as it was has done what its row asks. -/
theorem law_post {f : Func} {s : ChangeSpec} {apart fresh handsOn : Bool} {W W' : World} {args : Array Value} {ds gs : List (DataW H)} {before : List MemPlace} {b : TypeId}
    (hvars : s.vars = []) (hW : DataW.Whole enc Tryd.prog f.params.toList s.vars apart W args.toList ds gs before)
    (hr : (f.params.toList.all fun t => Tryd.prog.readableRec t && decide (t < Tryd.prog.types.size)) = true)
    (hb : f.resultTypes = #[b]) (hbt : Tryd.prog.underlying b = some .bool) (hfn : s.fn H ds = { results := [.lit (.bool true)], args := ds }) (hk : Kept W W') :
    s.post enc Tryd.prog f apart fresh handsOn false W args (.bool true) W' := by
  have hW' := hW
  obtain ⟨p, q, hA, hV, rfl, _, _⟩ := hW
  rw [hvars] at hV
  obtain ⟨rfl, rfl⟩ := trodVars_none hV
  have hlt : ∀ x ∈ p, x.block < W.heap.size := fun x hx => hW'.lt x (List.mem_append.2 (.inl hx))
  refine ⟨ds, [], p ++ [], [], p, [], hW', ?_, ?_, ?_, hk.below.frame _, fun h => by cases h⟩
  · rw [List.append_nil, hfn, hb]
    exact trodAll_cons_mk (p := []) (p' := []) (shut_bool hbt true) trodAll_mk0
  · rw [List.append_nil, hfn]
    exact trodAll_below hk.below hr hA hlt
  · rw [List.append_nil, hfn, hvars]
    exact rfl
end

end Go.Proofs.YtikkpfaeenekbaaDoor
