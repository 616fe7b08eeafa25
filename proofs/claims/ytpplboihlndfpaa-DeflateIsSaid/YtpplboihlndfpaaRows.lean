/-
  No cell of these rows narrows 'for every input' (looked for: loops, veiled, ifaces, maps, wideKeys, modest, calm, conditions, laid).
  DERIVED. THE GIVEN ROWS OF THIS SEAT. 5 by the template 'for every input the law returns true; each argument reads behind the call as it read before'; 0 by the template 'total and deterministic' (their statements: YtpplboihlndfpaaTotals.lean).
  GIVEN WITH THE SEED: the statements are not yours to turn. If you find one false, say at which input.
  Laid BY PROGRAM, IN A SANDBOX (cutbox-rows.mjs): the forced cells as the released guide's own fill.sh prints them over the translation 3c3193683b07166e… (all of the seat's roots in one cut). By AI agents, Wed Nov 11 2026. No macro, syntax, notation, axiom, sorry.
-/
import Derived.Test.YtpplboihlndfpaaChecked
import GoSem.Claim
import GoSem.ClaimJoined
import GoSem.ClaimMapViews
import Derived.JoinedTies
import Derived.KernelRfl
namespace Go.Proofs.Ytpplboihlndfpaa
/- THE CELL 'sum', in the pinned program and in every row, IS THE sha256 OF THE DUMP (.gsa) THAT YtpplboihlndfpaaProg.lean LOADS. Nothing in Lean hashes anything: it is a label: what it is worth is what the hold of that sum in a sandbox is worth. -/
noncomputable def Try.pinned : Pinned := { name := "ytpplboihlndfpaa", sum := "3c3193683b07166e0fb111c882786592f13ed1d30ef28f86b8c6fd0fc143b5e7", checked := Try.checked }
namespace Rows
def none {H : Type} : Left H := { results := [], args := [] }

/-- 'inkstandlaw07.DeflateIs': WHATEVER THE INPUT: true; the input reads as it did. -/
def deflateIsSpec : ChangeSpec := { name := "deflateIs", fn := fun _ => fun
  | [d1, d2] => { results := [.lit (.bool true)], args := [d1, d2] }
  | _ => none }
def deflateIsRow : OpenClaim := { program := "ytpplboihlndfpaa", sum := "3c3193683b07166e0fb111c882786592f13ed1d30ef28f86b8c6fd0fc143b5e7", func := "inkstand/inkstandlaw07.DeflateIs", spec := "deflateIs", plainKeys := false, apart := false }
def DeflateIsSaid : Prop := deflateIsRow.holds Try.pinned (OpenSpec.ofChange deflateIsSpec)

/-- ITS FALSE NEIGHBOUR: 'it returns false'. Refute it at one input. -/
def deflateIsWrong : ChangeSpec := { name := "deflateIs", fn := fun _ => fun
  | [d1, d2] => { results := [.lit (.bool false)], args := [d1, d2] }
  | _ => none }
def DeflateIsWrongFalsely : Prop := deflateIsRow.holds Try.pinned (OpenSpec.ofChange deflateIsWrong)

/-- 'inkstandlaw07.DeflateExpands': WHATEVER THE INPUT: true; the input reads as it did. -/
def deflateExpandsSpec : ChangeSpec := { name := "deflateExpands", fn := fun _ => fun
  | [d] => { results := [.lit (.bool true)], args := [d] }
  | _ => none }
def deflateExpandsRow : OpenClaim := { program := "ytpplboihlndfpaa", sum := "3c3193683b07166e0fb111c882786592f13ed1d30ef28f86b8c6fd0fc143b5e7", func := "inkstand/inkstandlaw07.DeflateExpands", spec := "deflateExpands", plainKeys := false, apart := false }
def DeflateExpandsSaid : Prop := deflateExpandsRow.holds Try.pinned (OpenSpec.ofChange deflateExpandsSpec)

/-- ITS FALSE NEIGHBOUR: 'it returns false'. Refute it at one input. -/
def deflateExpandsWrong : ChangeSpec := { name := "deflateExpands", fn := fun _ => fun
  | [d] => { results := [.lit (.bool false)], args := [d] }
  | _ => none }
def DeflateExpandsWrongFalsely : Prop := deflateExpandsRow.holds Try.pinned (OpenSpec.ofChange deflateExpandsWrong)

/-- 'inkstandlaw07.DeflateTokens': WHATEVER THE INPUT: true; the input reads as it did. -/
def deflateTokensSpec : ChangeSpec := { name := "deflateTokens", fn := fun _ => fun
  | [d] => { results := [.lit (.bool true)], args := [d] }
  | _ => none }
def deflateTokensRow : OpenClaim := { program := "ytpplboihlndfpaa", sum := "3c3193683b07166e0fb111c882786592f13ed1d30ef28f86b8c6fd0fc143b5e7", func := "inkstand/inkstandlaw07.DeflateTokens", spec := "deflateTokens", plainKeys := false, apart := false }
def DeflateTokensSaid : Prop := deflateTokensRow.holds Try.pinned (OpenSpec.ofChange deflateTokensSpec)

/-- ITS FALSE NEIGHBOUR: 'it returns false'. Refute it at one input. -/
def deflateTokensWrong : ChangeSpec := { name := "deflateTokens", fn := fun _ => fun
  | [d] => { results := [.lit (.bool false)], args := [d] }
  | _ => none }
def DeflateTokensWrongFalsely : Prop := deflateTokensRow.holds Try.pinned (OpenSpec.ofChange deflateTokensWrong)

/-- 'inkstandlaw07.DeflateRuns': WHATEVER THE INPUT: true; the input reads as it did. -/
def deflateRunsSpec : ChangeSpec := { name := "deflateRuns", fn := fun _ => fun
  | [d1, d2] => { results := [.lit (.bool true)], args := [d1, d2] }
  | _ => none }
def deflateRunsRow : OpenClaim := { program := "ytpplboihlndfpaa", sum := "3c3193683b07166e0fb111c882786592f13ed1d30ef28f86b8c6fd0fc143b5e7", func := "inkstand/inkstandlaw07.DeflateRuns", spec := "deflateRuns", plainKeys := false, apart := false }
def DeflateRunsSaid : Prop := deflateRunsRow.holds Try.pinned (OpenSpec.ofChange deflateRunsSpec)

/-- ITS FALSE NEIGHBOUR: 'it returns false'. Refute it at one input. -/
def deflateRunsWrong : ChangeSpec := { name := "deflateRuns", fn := fun _ => fun
  | [d1, d2] => { results := [.lit (.bool false)], args := [d1, d2] }
  | _ => none }
def DeflateRunsWrongFalsely : Prop := deflateRunsRow.holds Try.pinned (OpenSpec.ofChange deflateRunsWrong)

/-- 'inkstandlaw07.DeflateKinds': WHATEVER THE INPUT: true; the input reads as it did. -/
def deflateKindsSpec : ChangeSpec := { name := "deflateKinds", fn := fun _ => fun
  | [d1, d2] => { results := [.lit (.bool true)], args := [d1, d2] }
  | _ => none }
def deflateKindsRow : OpenClaim := { program := "ytpplboihlndfpaa", sum := "3c3193683b07166e0fb111c882786592f13ed1d30ef28f86b8c6fd0fc143b5e7", func := "inkstand/inkstandlaw07.DeflateKinds", spec := "deflateKinds", plainKeys := false, apart := false }
def DeflateKindsSaid : Prop := deflateKindsRow.holds Try.pinned (OpenSpec.ofChange deflateKindsSpec)

/-- ITS FALSE NEIGHBOUR: 'it returns false'. Refute it at one input. -/
def deflateKindsWrong : ChangeSpec := { name := "deflateKinds", fn := fun _ => fun
  | [d1, d2] => { results := [.lit (.bool false)], args := [d1, d2] }
  | _ => none }
def DeflateKindsWrongFalsely : Prop := deflateKindsRow.holds Try.pinned (OpenSpec.ofChange deflateKindsWrong)

/- THE SECOND FORM. 'bulk': how many values and letters a reading holds, each counted each time it is reached (what is shared counts as often as it is met; a slice's spare places count too). A statement '..UptoSaid' is the law's where the arguments, and the package variables that the reading takes, are together of bulk at most 1048576: NARROWER than '..Said'. Prove '..Said' where nothing that the law and all that it calls make is longer than what came in: it says more and counts as full. Else prove '..UptoSaid'. A law counts once. -/
mutual
def uptoBulk {H : Type} : DataW H → Nat
  | .lit (.string bytes) => bytes.length + 1
  | .lit _ => 1
  | .nil => 1
  | .ptr d => uptoBulk d + 1
  | .slice elems spare => uptoBulkAll elems + uptoBulkAll spare + 1
  | .agg parts => uptoBulkAll parts + 1
  | .iface _ d => uptoBulk d + 1
  | .map entries => uptoBulkEntries entries + 1
  | .held _ => 1
def uptoBulkAll {H : Type} : List (DataW H) → Nat
  | [] => 0
  | d :: r => uptoBulk d + uptoBulkAll r
def uptoBulkEntries {H : Type} : List (Lit × DataW H) → Nat
  | [] => 0
  | x :: r => uptoBulkEntry x + uptoBulkEntries r
def uptoBulkEntry {H : Type} : Lit × DataW H → Nat
  | (.string bytes, d) => bytes.length + uptoBulk d + 1
  | (_, d) => uptoBulk d + 1
 end
def uptoSmall : (H : Type) → List (DataW H) → Bool := fun _ ds => decide (uptoBulkAll ds ≤ 1048576)
def OpenSpec.upto (s : _root_.Go.ChangeSpec) : _root_.Go.OpenSpec := { _root_.Go.OpenSpec.ofChange s with cond := some uptoSmall }

/-- 'inkstandlaw07.DeflateIs', WHERE WHAT IT READS IS OF BULK AT MOST 1048576: true; the input reads as it did. -/
def deflateIsUptoRow : OpenClaim := { program := "ytpplboihlndfpaa", sum := "3c3193683b07166e0fb111c882786592f13ed1d30ef28f86b8c6fd0fc143b5e7", func := "inkstand/inkstandlaw07.DeflateIs", spec := "deflateIs", plainKeys := false, apart := false, narrowed := true }
def DeflateIsUptoSaid : Prop := deflateIsUptoRow.holds Try.pinned (OpenSpec.upto deflateIsSpec)

/-- 'inkstandlaw07.DeflateExpands', WHERE WHAT IT READS IS OF BULK AT MOST 1048576: true; the input reads as it did. -/
def deflateExpandsUptoRow : OpenClaim := { program := "ytpplboihlndfpaa", sum := "3c3193683b07166e0fb111c882786592f13ed1d30ef28f86b8c6fd0fc143b5e7", func := "inkstand/inkstandlaw07.DeflateExpands", spec := "deflateExpands", plainKeys := false, apart := false, narrowed := true }
def DeflateExpandsUptoSaid : Prop := deflateExpandsUptoRow.holds Try.pinned (OpenSpec.upto deflateExpandsSpec)

/-- 'inkstandlaw07.DeflateTokens', WHERE WHAT IT READS IS OF BULK AT MOST 1048576: true; the input reads as it did. -/
def deflateTokensUptoRow : OpenClaim := { program := "ytpplboihlndfpaa", sum := "3c3193683b07166e0fb111c882786592f13ed1d30ef28f86b8c6fd0fc143b5e7", func := "inkstand/inkstandlaw07.DeflateTokens", spec := "deflateTokens", plainKeys := false, apart := false, narrowed := true }
def DeflateTokensUptoSaid : Prop := deflateTokensUptoRow.holds Try.pinned (OpenSpec.upto deflateTokensSpec)

/-- 'inkstandlaw07.DeflateRuns', WHERE WHAT IT READS IS OF BULK AT MOST 1048576: true; the input reads as it did. -/
def deflateRunsUptoRow : OpenClaim := { program := "ytpplboihlndfpaa", sum := "3c3193683b07166e0fb111c882786592f13ed1d30ef28f86b8c6fd0fc143b5e7", func := "inkstand/inkstandlaw07.DeflateRuns", spec := "deflateRuns", plainKeys := false, apart := false, narrowed := true }
def DeflateRunsUptoSaid : Prop := deflateRunsUptoRow.holds Try.pinned (OpenSpec.upto deflateRunsSpec)

/-- 'inkstandlaw07.DeflateKinds', WHERE WHAT IT READS IS OF BULK AT MOST 1048576: true; the input reads as it did. -/
def deflateKindsUptoRow : OpenClaim := { program := "ytpplboihlndfpaa", sum := "3c3193683b07166e0fb111c882786592f13ed1d30ef28f86b8c6fd0fc143b5e7", func := "inkstand/inkstandlaw07.DeflateKinds", spec := "deflateKinds", plainKeys := false, apart := false, narrowed := true }
def DeflateKindsUptoSaid : Prop := deflateKindsUptoRow.holds Try.pinned (OpenSpec.upto deflateKindsSpec)

end Rows
end Go.Proofs.Ytpplboihlndfpaa
