/-
  NARROWER THAN 'FOR EVERY INPUT', by the rows' own cells (each row's printed sentence says how): CosSets: loops · CosSame: loops.
  DERIVED. THE GIVEN ROWS OF THIS SEAT. 4 by the template 'for every input the law returns true; each argument reads behind the call as it read before'; 0 by the template 'total and deterministic' (their statements: YtdfgbdonnpbfcaaTotals.lean).
  GIVEN WITH THE SEED: the statements are not yours to turn. If you find one false, say at which input.
  Laid BY PROGRAM, IN A SANDBOX (cutbox-rows.mjs): the forced cells as the released guide's own fill.sh prints them over the translation 60accb07774cba27… (all of the seat's roots in one cut). By AI agents, Wed Nov 11 2026. No macro, syntax, notation, axiom, sorry.
-/
import Derived.Test.YtdfgbdonnpbfcaaChecked
import GoSem.Claim
import GoSem.ClaimJoined
import GoSem.ClaimMapViews
import Derived.JoinedTies
import Derived.KernelRfl
namespace Go.Proofs.Ytdfgbdonnpbfcaa
/- THE CELL 'sum', in the pinned program and in every row, IS THE sha256 OF THE DUMP (.gsa) THAT YtdfgbdonnpbfcaaProg.lean LOADS. Nothing in Lean hashes anything: it is a label: what it is worth is what the hold of that sum in a sandbox is worth. -/
noncomputable def Try.pinned : Pinned := { name := "ytdfgbdonnpbfcaa", sum := "60accb07774cba27d04536b8114f22f347ae10e24f39eb39ee4b0dd40904fa03", checked := Try.checked }
namespace Rows
def none {H : Type} : Left H := { results := [], args := [] }

/-- 'inkstandlaw04.CosSets': WHATEVER THE INPUT: true; the input reads as it did. -/
def cosSetsSpec : ChangeSpec := { name := "cosSets", fn := fun _ => fun
  | [d1, d2, d3, d4] => { results := [.lit (.bool true)], args := [d1, d2, d3, d4] }
  | _ => none }
def cosSetsRow : OpenClaim := { program := "ytdfgbdonnpbfcaa", sum := "60accb07774cba27d04536b8114f22f347ae10e24f39eb39ee4b0dd40904fa03", func := "inkstand/inkstandlaw04.CosSets", spec := "cosSets", inPlace := ["internal/bytealg.IndexByteString", "internal/bytealg.IndexString"], unfollowed := true, recurses := true, named := ["internal/bytealg.MaxLen"], loops := true, apart := false }
def CosSetsSaid : Prop := cosSetsRow.holds Try.pinned (OpenSpec.ofChange cosSetsSpec)

/-- ITS FALSE NEIGHBOUR: 'it returns false'. Refute it at one input. -/
def cosSetsWrong : ChangeSpec := { name := "cosSets", fn := fun _ => fun
  | [d1, d2, d3, d4] => { results := [.lit (.bool false)], args := [d1, d2, d3, d4] }
  | _ => none }
def CosSetsWrongFalsely : Prop := cosSetsRow.holds Try.pinned (OpenSpec.ofChange cosSetsWrong)

/-- 'inkstandlaw04.CosSame': WHATEVER THE INPUT: true; the input reads as it did. -/
def cosSameSpec : ChangeSpec := { name := "cosSame", fn := fun _ => fun
  | [d1, d2, d3] => { results := [.lit (.bool true)], args := [d1, d2, d3] }
  | _ => none }
def cosSameRow : OpenClaim := { program := "ytdfgbdonnpbfcaa", sum := "60accb07774cba27d04536b8114f22f347ae10e24f39eb39ee4b0dd40904fa03", func := "inkstand/inkstandlaw04.CosSame", spec := "cosSame", inPlace := ["internal/bytealg.IndexByteString", "internal/bytealg.IndexString"], unfollowed := true, recurses := true, named := ["internal/bytealg.MaxLen"], loops := true, apart := false }
def CosSameSaid : Prop := cosSameRow.holds Try.pinned (OpenSpec.ofChange cosSameSpec)

/-- ITS FALSE NEIGHBOUR: 'it returns false'. Refute it at one input. -/
def cosSameWrong : ChangeSpec := { name := "cosSame", fn := fun _ => fun
  | [d1, d2, d3] => { results := [.lit (.bool false)], args := [d1, d2, d3] }
  | _ => none }
def CosSameWrongFalsely : Prop := cosSameRow.holds Try.pinned (OpenSpec.ofChange cosSameWrong)

/-- 'inkstandlaw04.CosDeep': WHATEVER THE INPUT: true; the input reads as it did. -/
def cosDeepSpec : ChangeSpec := { name := "cosDeep", fn := fun _ => fun
  | [d1, d2, d3] => { results := [.lit (.bool true)], args := [d1, d2, d3] }
  | _ => none }
def cosDeepRow : OpenClaim := { program := "ytdfgbdonnpbfcaa", sum := "60accb07774cba27d04536b8114f22f347ae10e24f39eb39ee4b0dd40904fa03", func := "inkstand/inkstandlaw04.CosDeep", spec := "cosDeep", inPlace := ["internal/bytealg.IndexByteString", "internal/bytealg.IndexString"], unfollowed := true, recurses := true, named := ["internal/bytealg.MaxLen"], apart := false }
def CosDeepSaid : Prop := cosDeepRow.holds Try.pinned (OpenSpec.ofChange cosDeepSpec)

/-- ITS FALSE NEIGHBOUR: 'it returns false'. Refute it at one input. -/
def cosDeepWrong : ChangeSpec := { name := "cosDeep", fn := fun _ => fun
  | [d1, d2, d3] => { results := [.lit (.bool false)], args := [d1, d2, d3] }
  | _ => none }
def CosDeepWrongFalsely : Prop := cosDeepRow.holds Try.pinned (OpenSpec.ofChange cosDeepWrong)

/-- 'inkstandlaw04.CosCounts': WHATEVER THE INPUT: true; the input reads as it did. -/
def cosCountsSpec : ChangeSpec := { name := "cosCounts", fn := fun _ => fun
  | [d1, d2] => { results := [.lit (.bool true)], args := [d1, d2] }
  | _ => none }
def cosCountsRow : OpenClaim := { program := "ytdfgbdonnpbfcaa", sum := "60accb07774cba27d04536b8114f22f347ae10e24f39eb39ee4b0dd40904fa03", func := "inkstand/inkstandlaw04.CosCounts", spec := "cosCounts", inPlace := ["internal/bytealg.IndexByteString", "internal/bytealg.IndexString"], unfollowed := true, recurses := true, named := ["internal/bytealg.MaxLen"], apart := false }
def CosCountsSaid : Prop := cosCountsRow.holds Try.pinned (OpenSpec.ofChange cosCountsSpec)

/-- ITS FALSE NEIGHBOUR: 'it returns false'. Refute it at one input. -/
def cosCountsWrong : ChangeSpec := { name := "cosCounts", fn := fun _ => fun
  | [d1, d2] => { results := [.lit (.bool false)], args := [d1, d2] }
  | _ => none }
def CosCountsWrongFalsely : Prop := cosCountsRow.holds Try.pinned (OpenSpec.ofChange cosCountsWrong)

/- THE SECOND FORM. 'bulk': how many values and letters a reading holds, each counted each time it is reached (what is shared counts as often as it is met; a slice's spare places count too). A statement '..UptoSaid' is the law's where the arguments, and the package variables that the reading takes, are together of bulk at most 1048576: NARROWER than '..Said'. Prove '..Said' where nothing that the law and all that it calls make is longer than what came in: it says more and counts as full. Else prove '..UptoSaid'. A law counts once. -/
mutual
def uptoBulk {H : Type} : DataW H → Nat
  | .lit (.string bytes) => bytes.length + 1
  | .lit _ => 1
  | .nil => 1
  | .ptr d => uptoBulk d + 1
  | .slice elems spare => uptoBulkAll elems + uptoBulkAll spare + 1
  | .agg parts => uptoBulkAll parts + 1
  | .iface _ d => uptoBulk d + 1
  | .map entries => uptoBulkEntries entries + 1
  | .held _ => 1
def uptoBulkAll {H : Type} : List (DataW H) → Nat
  | [] => 0
  | d :: r => uptoBulk d + uptoBulkAll r
def uptoBulkEntries {H : Type} : List (Lit × DataW H) → Nat
  | [] => 0
  | x :: r => uptoBulkEntry x + uptoBulkEntries r
def uptoBulkEntry {H : Type} : Lit × DataW H → Nat
  | (.string bytes, d) => bytes.length + uptoBulk d + 1
  | (_, d) => uptoBulk d + 1
 end
def uptoSmall : (H : Type) → List (DataW H) → Bool := fun _ ds => decide (uptoBulkAll ds ≤ 1048576)
def OpenSpec.upto (s : _root_.Go.ChangeSpec) : _root_.Go.OpenSpec := { _root_.Go.OpenSpec.ofChange s with cond := some uptoSmall }

/-- 'inkstandlaw04.CosSets', WHERE WHAT IT READS IS OF BULK AT MOST 1048576: true; the input reads as it did. -/
def cosSetsUptoRow : OpenClaim := { program := "ytdfgbdonnpbfcaa", sum := "60accb07774cba27d04536b8114f22f347ae10e24f39eb39ee4b0dd40904fa03", func := "inkstand/inkstandlaw04.CosSets", spec := "cosSets", inPlace := ["internal/bytealg.IndexByteString", "internal/bytealg.IndexString"], unfollowed := true, recurses := true, named := ["internal/bytealg.MaxLen"], loops := true, apart := false, narrowed := true }
def CosSetsUptoSaid : Prop := cosSetsUptoRow.holds Try.pinned (OpenSpec.upto cosSetsSpec)

/-- 'inkstandlaw04.CosSame', WHERE WHAT IT READS IS OF BULK AT MOST 1048576: true; the input reads as it did. -/
def cosSameUptoRow : OpenClaim := { program := "ytdfgbdonnpbfcaa", sum := "60accb07774cba27d04536b8114f22f347ae10e24f39eb39ee4b0dd40904fa03", func := "inkstand/inkstandlaw04.CosSame", spec := "cosSame", inPlace := ["internal/bytealg.IndexByteString", "internal/bytealg.IndexString"], unfollowed := true, recurses := true, named := ["internal/bytealg.MaxLen"], loops := true, apart := false, narrowed := true }
def CosSameUptoSaid : Prop := cosSameUptoRow.holds Try.pinned (OpenSpec.upto cosSameSpec)

/-- 'inkstandlaw04.CosDeep', WHERE WHAT IT READS IS OF BULK AT MOST 1048576: true; the input reads as it did. -/
def cosDeepUptoRow : OpenClaim := { program := "ytdfgbdonnpbfcaa", sum := "60accb07774cba27d04536b8114f22f347ae10e24f39eb39ee4b0dd40904fa03", func := "inkstand/inkstandlaw04.CosDeep", spec := "cosDeep", inPlace := ["internal/bytealg.IndexByteString", "internal/bytealg.IndexString"], unfollowed := true, recurses := true, named := ["internal/bytealg.MaxLen"], apart := false, narrowed := true }
def CosDeepUptoSaid : Prop := cosDeepUptoRow.holds Try.pinned (OpenSpec.upto cosDeepSpec)

/-- 'inkstandlaw04.CosCounts', WHERE WHAT IT READS IS OF BULK AT MOST 1048576: true; the input reads as it did. -/
def cosCountsUptoRow : OpenClaim := { program := "ytdfgbdonnpbfcaa", sum := "60accb07774cba27d04536b8114f22f347ae10e24f39eb39ee4b0dd40904fa03", func := "inkstand/inkstandlaw04.CosCounts", spec := "cosCounts", inPlace := ["internal/bytealg.IndexByteString", "internal/bytealg.IndexString"], unfollowed := true, recurses := true, named := ["internal/bytealg.MaxLen"], apart := false, narrowed := true }
def CosCountsUptoSaid : Prop := cosCountsUptoRow.holds Try.pinned (OpenSpec.upto cosCountsSpec)

end Rows
end Go.Proofs.Ytdfgbdonnpbfcaa
