/-
  What package cos's hasEntries, isNull and Count answer.
-/
import Derived.Test.YtbgdeaeikijdgaaGreatDoorCosLies
import Derived.Deep.LoopGhost
namespace Go.Proofs.YtbgdeaeikijdgaaGreatDoor
open Go.RowKit Cx

theorem hasEntries_any (o : Ob) (h : Hd) (w : World) (b : Bool) (hb : b = o.ents) :
    Calls Tryz.prog 97 #[objV o h] w fun e w' => e = .returned (.bool b) ∧ Kept w w' := by
  unfold objV
  have hb' : b = (o.k == 6 || o.k == 8) := hb
  clear hb
  obtain ⟨k, n, f, s, l, d⟩ := o
  simp only [Ob.k, Ob.n, Ob.f, Ob.s, Ob.l, Ob.d] at hb' ⊢
  have HB := Lib.hid hb'
  clear hb'
  cases h6 : (k == 6)
  · go_enter Tryz.func97, Tryz.ntmps97
    go_wp2_with fail
    go_ret
    exact ⟨by rw [HB.out]; first | done | simp [h6], (Kept.refl w).alloc _ _⟩
  · go_enter Tryz.func97, Tryz.ntmps97
    go_wp2_with fail
    go_ret
    exact ⟨by rw [HB.out]; first | done | simp [h6], (Kept.refl w).alloc _ _⟩

theorem isNull_any (o : Ob) (h : Hd) (w : World) (b : Bool) (hb : b = (o.k == 0)) :
    Calls Tryz.prog 228 #[objV o h] w fun e w' => e = .returned (.bool b) ∧ Kept w w' := by
  unfold objV
  obtain ⟨k, n, f, s, l, d⟩ := o
  simp only [Ob.k, Ob.n, Ob.f, Ob.s, Ob.l, Ob.d] at hb ⊢
  have HB := Lib.hid hb
  clear hb
  go_enter Tryz.func228, Tryz.ntmps228
  go_wp2_with fail
  go_ret
  exact ⟨ret_bool HB.out.symm, (Kept.refl w).alloc _ _⟩

end Go.Proofs.YtbgdeaeikijdgaaGreatDoor
