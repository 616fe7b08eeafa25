/-
  A number, a Ref, a Word as objects; the next token of what is left of a text.
-/
import Derived.Test.YtakbhdhlcnpejaaCosTok
import Derived.Test.YtakbhdhlcnpejaaXBase
namespace Go.Proofs.Ytakbhdhlcnpejaa
open Go.RowKit Cx
attribute [local go_sem ↓] Go.wp_at_zero Go.wp_at_succ

abbrev nul6 : Array Value := #[.int .i64 0, .int .i64 0, .int .i64 0, .string ⟨#[]⟩, .slice none 0 0, .slice none 0 0]

theorem pairS {w wx : World} {b c : Nat} {t u : TypeId} {x0 x1 x2 x3 x4 x5 y0 y1 y2 y3 y4 y5 : Value} {l : BlkList} (h : In w ((c, #[y0, y1, y2, y3, y4, y5], t) :: (b, #[x0, x1, x2, x3, x4, x5], u) :: l) wx) :
    wx.cell? ⟨b, 1, none⟩ = some x1 ∧ wx.cell? ⟨c, 1, none⟩ = some y1 :=
  ⟨(h.mem (List.mem_cons_of_mem _ List.mem_cons_self)).cell 1, (h.mem List.mem_cons_self).cell 1⟩

end Go.Proofs.Ytakbhdhlcnpejaa
