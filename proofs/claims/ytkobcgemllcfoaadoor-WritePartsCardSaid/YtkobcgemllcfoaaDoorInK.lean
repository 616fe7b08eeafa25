/-
  Behind w lies wx: nothing that was there has turned.
-/
import Derived.Test.YtkobcgemllcfoaaDoorHas
namespace Go.Proofs.YtkobcgemllcfoaaDoor

theorem In.k {w wx : World} {l : BlkList} (h : In w l wx) : Kept w wx := h.1

end Go.Proofs.YtkobcgemllcfoaaDoor
