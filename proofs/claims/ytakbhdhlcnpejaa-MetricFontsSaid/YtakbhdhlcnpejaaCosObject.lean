/-
  What the rest's object and entryOf answer, if objectOf answers as it should.
-/
import Derived.Test.YtakbhdhlcnpejaaCosUpE
namespace Go.Proofs.Ytakbhdhlcnpejaa
open Go.RowKit Cx

/-- The object behind a place, at a fuel. -/
def objAt (F : Nat) (l : List UInt8) (dep : Nat) (a : Int) : Int × Ob × Nat := if (Lx.nextV l a).1 ≠ 0 then ((Lx.nextV l a).1, nul, 0) else objOf F l dep (Lx.nextV l a).2

theorem Lies.set {P : Nat → Prop} {w : World} {o : Ob} {h : Hd} {k of : Nat} (hl : Lies (Cel P w) o h) (hk : ∀ b, P b → b ≠ k) (v : Value) : Lies (Cel P (w.setCell ⟨k, of, none⟩ v)) o h :=
  hl.keep fun b hb _ => ⟨hb, Below.heap_setCell w ⟨k, of, none⟩ v b (hk b hb)⟩

theorem Lies.drew {P : Nat → Prop} {w : World} {o : Ob} {h : Hd} (hl : Lies (Cel P w) o h) : Lies (Cel P w.drew) o h := hl
theorem Lies.alloc {P : Nat → Prop} {w : World} {o : Ob} {h : Hd} (hl : Lies (Cel P w) o h) (c : Obj) : Lies (Cel P (w.alloc c)) o h :=
  hl.keep fun b hb hlt => ⟨hb, Below.heap_alloc w c b hlt⟩

end Go.Proofs.Ytakbhdhlcnpejaa
