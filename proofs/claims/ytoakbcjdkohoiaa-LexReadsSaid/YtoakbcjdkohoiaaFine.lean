/-
  'Fine w': the library's two variables that the texts' functions read are as they are laid.
-/
import Derived.Test.YtoakbcjdkohoiaaKept
import Derived.Lib.LaidTab
import Derived.Lib.ItoaNum
namespace Go.Proofs.Ytoakbcjdkohoiaa
open Go.RowKit

def Fine (w : World) : Prop :=
  (∃ m, w.cell? ⟨0, 0, none⟩ = some (.int .i64 m)) ∧ Lib.TabIs Try.prog w "internal/strconv.uint64pow10" .u64 Lib.pow10Tab

end Go.Proofs.Ytoakbcjdkohoiaa
