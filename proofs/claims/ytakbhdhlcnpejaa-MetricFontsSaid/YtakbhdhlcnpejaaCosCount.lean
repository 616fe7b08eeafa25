/-
  What package cos's hasEntries, isNull and Count answer.
-/
import Derived.Test.YtakbhdhlcnpejaaCosLies
import Derived.Deep.LoopGhost
namespace Go.Proofs.Ytakbhdhlcnpejaa
open Go.RowKit Cx

theorem hasEntries_any (o : Ob) (h : Hd) (w : World) (b : Bool) (hb : b = o.ents) :
    Calls Try.prog 50 #[objV o h] w fun e w' => e = .returned (.bool b) ∧ Kept w w' := by
  unfold objV
  have hb' : b = (o.k == 6 || o.k == 8) := hb
  clear hb
  obtain ⟨k, n, f, s, l, d⟩ := o
  simp only [Ob.k, Ob.n, Ob.f, Ob.s, Ob.l, Ob.d] at hb' ⊢
  have HB := Lib.hid hb'
  clear hb'
  cases h6 : (k == 6)
  · go_enter Try.func50, Try.ntmps50
    go_wp2_with fail
    go_ret
    exact ⟨by rw [HB.out]; first | done | simp [h6], (Kept.refl w).alloc _ _⟩
  · go_enter Try.func50, Try.ntmps50
    go_wp2_with fail
    go_ret
    exact ⟨by rw [HB.out]; first | done | simp [h6], (Kept.refl w).alloc _ _⟩

end Go.Proofs.Ytakbhdhlcnpejaa
