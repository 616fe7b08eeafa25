/-
  What package cos's hasEntries, isNull and Count answer.
-/
import Derived.Test.YtkpagahnmbchjaaGreatDoorCosLies
import Derived.Deep.LoopGhost
namespace Go.Proofs.YtkpagahnmbchjaaGreatDoor
open Go.RowKit Cx

theorem isNull_any (o : Ob) (h : Hd) (w : World) (b : Bool) (hb : b = (o.k == 0)) :
    Calls Tryz.prog 154 #[objV o h] w fun e w' => e = .returned (.bool b) ∧ Kept w w' := by
  unfold objV
  obtain ⟨k, n, f, s, l, d⟩ := o
  simp only [Ob.k, Ob.n, Ob.f, Ob.s, Ob.l, Ob.d] at hb ⊢
  have HB := Lib.hid hb
  clear hb
  go_enter Tryz.func154, Tryz.ntmps154
  go_wp2_with fail
  go_ret
  exact ⟨ret_bool HB.out.symm, (Kept.refl w).alloc _ _⟩

end Go.Proofs.YtkpagahnmbchjaaGreatDoor
