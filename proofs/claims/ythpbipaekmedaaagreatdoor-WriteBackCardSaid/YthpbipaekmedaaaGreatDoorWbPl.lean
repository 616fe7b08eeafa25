/-
  Whether an object bears its own kind's fields alone: what the law's plain answers.
-/
import Derived.Test.YthpbipaekmedaaaGreatDoorWbMath
import Derived.Test.YthpbipaekmedaaaGreatDoorCosE
import Derived.BigGuard
namespace Go.Proofs.YthpbipaekmedaaaGreatDoor
open Go.RowKit Cx
set_option linter.unusedSimpArgs false
set_option linter.unusedVariables false

theorem nil_toList : (⟨#[]⟩ : ByteArray).toList = [] := by first | rfl | decide | simp
theorem toList_nil {s : ByteArray} (h : s.toList = []) : s = ⟨#[]⟩ := by
  apply keq_iff.1
  unfold keq
  rw [h, nil_toList]; rfl
/-- What plain says of an object. -/
def PlC (P : Nat → Prop) (x : Ob) : Prop :=
  ∀ (h : Hd) (w : World), Lies (Cel P w) x h → Calls Tryz.prog 6 #[objV x h] w fun e w' => e = .returned (.bool (ex x.norm x)) ∧ Kept w w'

end Go.Proofs.YthpbipaekmedaaaGreatDoor
