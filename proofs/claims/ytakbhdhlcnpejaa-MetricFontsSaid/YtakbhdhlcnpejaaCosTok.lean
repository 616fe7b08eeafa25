/-
  What the small functions of package cos on tokens answer.
-/
import Derived.Test.YtakbhdhlcnpejaaMathS
import Derived.Test.YtakbhdhlcnpejaaCosLies
import Derived.Test.YtakbhdhlcnpejaaLexToken
import Derived.Test.YtakbhdhlcnpejaaFixOps
import Derived.Deep.RegionHeld3
import Derived.Deep.DrawnRows
namespace Go.Proofs.Ytakbhdhlcnpejaa
open Go.RowKit Cx
attribute [local go_sem ↓] Go.wp_at_zero Go.wp_at_succ

/-- A token as a value. -/
def tkV (t : Lx.Tok) : Value := .agg #[.int .i64 t.kind, .int .i64 t.f, .string ⟨t.s.toArray⟩, .bool t.whole, .int .i64 t.frm, .int .i64 t.to]

end Go.Proofs.Ytakbhdhlcnpejaa
