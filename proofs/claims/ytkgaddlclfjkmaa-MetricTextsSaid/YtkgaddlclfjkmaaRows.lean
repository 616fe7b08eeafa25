/-
  No cell of these rows narrows 'for every input' (looked for: loops, veiled, ifaces, maps, wideKeys, modest, calm, conditions, laid).
  DERIVED. THE GIVEN ROWS OF THIS SEAT. 6 by the template 'for every input the law returns true; each argument reads behind the call as it read before'; 0 by the template 'total and deterministic' (their statements: YtkgaddlclfjkmaaTotals.lean).
  GIVEN WITH THE SEED: the statements are not yours to turn. If you find one false, say at which input.
  Laid BY PROGRAM, IN A SANDBOX (cutbox-rows.mjs): the forced cells as the released guide's own fill.sh prints them over the translation 63278aaebc83de71… (all of the seat's roots in one cut). By AI agents, Wed Nov 11 2026. No macro, syntax, notation, axiom, sorry.
-/
import Derived.Test.YtkgaddlclfjkmaaChecked
import GoSem.Claim
import GoSem.ClaimJoined
import GoSem.ClaimMapViews
import Derived.JoinedTies
import Derived.KernelRfl
namespace Go.Proofs.Ytkgaddlclfjkmaa
/- THE CELL 'sum', in the pinned program and in every row, IS THE sha256 OF THE DUMP (.gsa) THAT YtkgaddlclfjkmaaProg.lean LOADS. Nothing in Lean hashes anything: it is a label: what it is worth is what the hold of that sum in a sandbox is worth. -/
noncomputable def Try.pinned : Pinned := { name := "ytkgaddlclfjkmaa", sum := "63278aaebc83de714c8ce548b4f8c8bc1c290986d394a5c293c04980f55b2b21", checked := Try.checked }
namespace Rows
def none {H : Type} : Left H := { results := [], args := [] }

/-- 'inkstandlaw13.MetricWidths': WHATEVER THE INPUT: true; the input reads as it did. -/
def metricWidthsSpec : ChangeSpec := { name := "metricWidths", fn := fun _ => fun
  | [d1, d2, d3] => { results := [.lit (.bool true)], args := [d1, d2, d3] }
  | _ => none }
def metricWidthsRow : OpenClaim := { program := "ytkgaddlclfjkmaa", sum := "63278aaebc83de714c8ce548b4f8c8bc1c290986d394a5c293c04980f55b2b21", func := "inkstand/inkstandlaw13.MetricWidths", spec := "metricWidths", inPlace := ["internal/abi.NoEscape"], recurses := true, apart := false }
def MetricWidthsSaid : Prop := metricWidthsRow.holds Try.pinned (OpenSpec.ofChange metricWidthsSpec)

/-- ITS FALSE NEIGHBOUR: 'it returns false'. Refute it at one input. -/
def metricWidthsWrong : ChangeSpec := { name := "metricWidths", fn := fun _ => fun
  | [d1, d2, d3] => { results := [.lit (.bool false)], args := [d1, d2, d3] }
  | _ => none }
def MetricWidthsWrongFalsely : Prop := metricWidthsRow.holds Try.pinned (OpenSpec.ofChange metricWidthsWrong)

/-- 'inkstandlaw13.MetricTexts': WHATEVER THE INPUT: true; the input reads as it did. -/
def metricTextsSpec : ChangeSpec := { name := "metricTexts", fn := fun _ => fun
  | [d] => { results := [.lit (.bool true)], args := [d] }
  | _ => none }
def metricTextsRow : OpenClaim := { program := "ytkgaddlclfjkmaa", sum := "63278aaebc83de714c8ce548b4f8c8bc1c290986d394a5c293c04980f55b2b21", func := "inkstand/inkstandlaw13.MetricTexts", spec := "metricTexts", inPlace := ["internal/abi.NoEscape"], apart := false }
def MetricTextsSaid : Prop := metricTextsRow.holds Try.pinned (OpenSpec.ofChange metricTextsSpec)

/-- ITS FALSE NEIGHBOUR: 'it returns false'. Refute it at one input. -/
def metricTextsWrong : ChangeSpec := { name := "metricTexts", fn := fun _ => fun
  | [d] => { results := [.lit (.bool false)], args := [d] }
  | _ => none }
def MetricTextsWrongFalsely : Prop := metricTextsRow.holds Try.pinned (OpenSpec.ofChange metricTextsWrong)

/-- 'inkstandlaw13.MetricBack': WHATEVER THE INPUT: true; the input reads as it did. -/
def metricBackSpec : ChangeSpec := { name := "metricBack", fn := fun _ => fun
  | [d] => { results := [.lit (.bool true)], args := [d] }
  | _ => none }
def metricBackRow : OpenClaim := { program := "ytkgaddlclfjkmaa", sum := "63278aaebc83de714c8ce548b4f8c8bc1c290986d394a5c293c04980f55b2b21", func := "inkstand/inkstandlaw13.MetricBack", spec := "metricBack", inPlace := ["internal/abi.NoEscape"], apart := false }
def MetricBackSaid : Prop := metricBackRow.holds Try.pinned (OpenSpec.ofChange metricBackSpec)

/-- ITS FALSE NEIGHBOUR: 'it returns false'. Refute it at one input. -/
def metricBackWrong : ChangeSpec := { name := "metricBack", fn := fun _ => fun
  | [d] => { results := [.lit (.bool false)], args := [d] }
  | _ => none }
def MetricBackWrongFalsely : Prop := metricBackRow.holds Try.pinned (OpenSpec.ofChange metricBackWrong)

/-- 'inkstandlaw13.MetricSums': WHATEVER THE INPUT: true; the input reads as it did. -/
def metricSumsSpec : ChangeSpec := { name := "metricSums", fn := fun _ => fun
  | [d1, d2, d3] => { results := [.lit (.bool true)], args := [d1, d2, d3] }
  | _ => none }
def metricSumsRow : OpenClaim := { program := "ytkgaddlclfjkmaa", sum := "63278aaebc83de714c8ce548b4f8c8bc1c290986d394a5c293c04980f55b2b21", func := "inkstand/inkstandlaw13.MetricSums", spec := "metricSums", inPlace := ["internal/abi.NoEscape"], apart := false }
def MetricSumsSaid : Prop := metricSumsRow.holds Try.pinned (OpenSpec.ofChange metricSumsSpec)

/-- ITS FALSE NEIGHBOUR: 'it returns false'. Refute it at one input. -/
def metricSumsWrong : ChangeSpec := { name := "metricSums", fn := fun _ => fun
  | [d1, d2, d3] => { results := [.lit (.bool false)], args := [d1, d2, d3] }
  | _ => none }
def MetricSumsWrongFalsely : Prop := metricSumsRow.holds Try.pinned (OpenSpec.ofChange metricSumsWrong)

/-- 'inkstandlaw13.MetricPlain': WHATEVER THE INPUT: true; the input reads as it did. -/
def metricPlainSpec : ChangeSpec := { name := "metricPlain", fn := fun _ => fun
  | [d1, d2] => { results := [.lit (.bool true)], args := [d1, d2] }
  | _ => none }
def metricPlainRow : OpenClaim := { program := "ytkgaddlclfjkmaa", sum := "63278aaebc83de714c8ce548b4f8c8bc1c290986d394a5c293c04980f55b2b21", func := "inkstand/inkstandlaw13.MetricPlain", spec := "metricPlain", inPlace := ["internal/abi.NoEscape"], apart := false }
def MetricPlainSaid : Prop := metricPlainRow.holds Try.pinned (OpenSpec.ofChange metricPlainSpec)

/-- ITS FALSE NEIGHBOUR: 'it returns false'. Refute it at one input. -/
def metricPlainWrong : ChangeSpec := { name := "metricPlain", fn := fun _ => fun
  | [d1, d2] => { results := [.lit (.bool false)], args := [d1, d2] }
  | _ => none }
def MetricPlainWrongFalsely : Prop := metricPlainRow.holds Try.pinned (OpenSpec.ofChange metricPlainWrong)

/-- 'inkstandlaw13.MetricStandard': WHATEVER THE INPUT: true; the input reads as it did. -/
def metricStandardSpec : ChangeSpec := { name := "metricStandard", fn := fun _ => fun
  | [d1, d2] => { results := [.lit (.bool true)], args := [d1, d2] }
  | _ => none }
def metricStandardRow : OpenClaim := { program := "ytkgaddlclfjkmaa", sum := "63278aaebc83de714c8ce548b4f8c8bc1c290986d394a5c293c04980f55b2b21", func := "inkstand/inkstandlaw13.MetricStandard", spec := "metricStandard", inPlace := ["internal/abi.NoEscape"], apart := false }
def MetricStandardSaid : Prop := metricStandardRow.holds Try.pinned (OpenSpec.ofChange metricStandardSpec)

/-- ITS FALSE NEIGHBOUR: 'it returns false'. Refute it at one input. -/
def metricStandardWrong : ChangeSpec := { name := "metricStandard", fn := fun _ => fun
  | [d1, d2] => { results := [.lit (.bool false)], args := [d1, d2] }
  | _ => none }
def MetricStandardWrongFalsely : Prop := metricStandardRow.holds Try.pinned (OpenSpec.ofChange metricStandardWrong)

/- THE SECOND FORM. 'bulk': how many values and letters a reading holds, each counted each time it is reached (what is shared counts as often as it is met; a slice's spare places count too). A statement '..UptoSaid' is the law's where the arguments, and the package variables that the reading takes, are together of bulk at most 1048576: NARROWER than '..Said'. Prove '..Said' where nothing that the law and all that it calls make is longer than what came in: it says more and counts as full. Else prove '..UptoSaid'. A law counts once. -/
mutual
def uptoBulk {H : Type} : DataW H → Nat
  | .lit (.string bytes) => bytes.length + 1
  | .lit _ => 1
  | .nil => 1
  | .ptr d => uptoBulk d + 1
  | .slice elems spare => uptoBulkAll elems + uptoBulkAll spare + 1
  | .agg parts => uptoBulkAll parts + 1
  | .iface _ d => uptoBulk d + 1
  | .map entries => uptoBulkEntries entries + 1
  | .held _ => 1
def uptoBulkAll {H : Type} : List (DataW H) → Nat
  | [] => 0
  | d :: r => uptoBulk d + uptoBulkAll r
def uptoBulkEntries {H : Type} : List (Lit × DataW H) → Nat
  | [] => 0
  | x :: r => uptoBulkEntry x + uptoBulkEntries r
def uptoBulkEntry {H : Type} : Lit × DataW H → Nat
  | (.string bytes, d) => bytes.length + uptoBulk d + 1
  | (_, d) => uptoBulk d + 1
 end
def uptoSmall : (H : Type) → List (DataW H) → Bool := fun _ ds => decide (uptoBulkAll ds ≤ 1048576)
def OpenSpec.upto (s : _root_.Go.ChangeSpec) : _root_.Go.OpenSpec := { _root_.Go.OpenSpec.ofChange s with cond := some uptoSmall }

/-- 'inkstandlaw13.MetricWidths', WHERE WHAT IT READS IS OF BULK AT MOST 1048576: true; the input reads as it did. -/
def metricWidthsUptoRow : OpenClaim := { program := "ytkgaddlclfjkmaa", sum := "63278aaebc83de714c8ce548b4f8c8bc1c290986d394a5c293c04980f55b2b21", func := "inkstand/inkstandlaw13.MetricWidths", spec := "metricWidths", inPlace := ["internal/abi.NoEscape"], recurses := true, apart := false, narrowed := true }
def MetricWidthsUptoSaid : Prop := metricWidthsUptoRow.holds Try.pinned (OpenSpec.upto metricWidthsSpec)

/-- 'inkstandlaw13.MetricTexts', WHERE WHAT IT READS IS OF BULK AT MOST 1048576: true; the input reads as it did. -/
def metricTextsUptoRow : OpenClaim := { program := "ytkgaddlclfjkmaa", sum := "63278aaebc83de714c8ce548b4f8c8bc1c290986d394a5c293c04980f55b2b21", func := "inkstand/inkstandlaw13.MetricTexts", spec := "metricTexts", inPlace := ["internal/abi.NoEscape"], apart := false, narrowed := true }
def MetricTextsUptoSaid : Prop := metricTextsUptoRow.holds Try.pinned (OpenSpec.upto metricTextsSpec)

/-- 'inkstandlaw13.MetricBack', WHERE WHAT IT READS IS OF BULK AT MOST 1048576: true; the input reads as it did. -/
def metricBackUptoRow : OpenClaim := { program := "ytkgaddlclfjkmaa", sum := "63278aaebc83de714c8ce548b4f8c8bc1c290986d394a5c293c04980f55b2b21", func := "inkstand/inkstandlaw13.MetricBack", spec := "metricBack", inPlace := ["internal/abi.NoEscape"], apart := false, narrowed := true }
def MetricBackUptoSaid : Prop := metricBackUptoRow.holds Try.pinned (OpenSpec.upto metricBackSpec)

/-- 'inkstandlaw13.MetricSums', WHERE WHAT IT READS IS OF BULK AT MOST 1048576: true; the input reads as it did. -/
def metricSumsUptoRow : OpenClaim := { program := "ytkgaddlclfjkmaa", sum := "63278aaebc83de714c8ce548b4f8c8bc1c290986d394a5c293c04980f55b2b21", func := "inkstand/inkstandlaw13.MetricSums", spec := "metricSums", inPlace := ["internal/abi.NoEscape"], apart := false, narrowed := true }
def MetricSumsUptoSaid : Prop := metricSumsUptoRow.holds Try.pinned (OpenSpec.upto metricSumsSpec)

/-- 'inkstandlaw13.MetricPlain', WHERE WHAT IT READS IS OF BULK AT MOST 1048576: true; the input reads as it did. -/
def metricPlainUptoRow : OpenClaim := { program := "ytkgaddlclfjkmaa", sum := "63278aaebc83de714c8ce548b4f8c8bc1c290986d394a5c293c04980f55b2b21", func := "inkstand/inkstandlaw13.MetricPlain", spec := "metricPlain", inPlace := ["internal/abi.NoEscape"], apart := false, narrowed := true }
def MetricPlainUptoSaid : Prop := metricPlainUptoRow.holds Try.pinned (OpenSpec.upto metricPlainSpec)

/-- 'inkstandlaw13.MetricStandard', WHERE WHAT IT READS IS OF BULK AT MOST 1048576: true; the input reads as it did. -/
def metricStandardUptoRow : OpenClaim := { program := "ytkgaddlclfjkmaa", sum := "63278aaebc83de714c8ce548b4f8c8bc1c290986d394a5c293c04980f55b2b21", func := "inkstand/inkstandlaw13.MetricStandard", spec := "metricStandard", inPlace := ["internal/abi.NoEscape"], apart := false, narrowed := true }
def MetricStandardUptoSaid : Prop := metricStandardUptoRow.holds Try.pinned (OpenSpec.upto metricStandardSpec)

end Rows
end Go.Proofs.Ytkgaddlclfjkmaa
