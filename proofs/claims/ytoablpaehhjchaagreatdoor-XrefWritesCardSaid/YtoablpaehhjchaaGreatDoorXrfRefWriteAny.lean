/-
  The reference of package xref: Write, of any entries.
-/
import Derived.Test.YtoablpaehhjchaaGreatDoorXrfRefWrite1
import Derived.Test.YtoablpaehhjchaaGreatDoorXrfRefWrite2
import Derived.Test.YtoablpaehhjchaaGreatDoorXrfRefWrite3
import Derived.Test.YtoablpaehhjchaaGreatDoorXrfRefMerge
import Derived.Test.YtoablpaehhjchaaGreatDoorXrefWritesWalk
namespace Go.Proofs.YtoablpaehhjchaaGreatDoor
open Go.RowKit Rx

theorem rWrite_any : RefWrites := fun l p c w h hl => by
  cases hb : risG (-1) l with
  | false =>
    have e := writeE_one hb
    rw [e, writeV_bad (by rw [e]; decide)]
    exact rWrite_bad1 l p c w h hl hb
  | true =>
    cases ht : l.any tooG with
    | true =>
      have e := writeE_two hb ht
      rw [e, writeV_bad (by rw [e]; decide)]
      exact rWrite_bad2 l p c w h hl hb ht
    | false =>
      have e := writeE_ok hb ht
      rw [e, show writeV l = writeT l by unfold writeV; rw [if_pos e]]
      exact rWrite_ok l p c w h hl hb ht _ rfl

theorem XrefWrites_walk (va : Value) (l : List Xent) (vb : Value) (old : List Xent) (w : World) (h : Okw w) (ha : EntArg w va l) (hb : EntArg w vb old) :
    Calls Tryz.prog 3 #[va, vb] w fun e w' => e = .returned (.bool true) ∧ Kept w w' :=
  XrefWrites_of rWrite_any rMerge_any va l vb old w h ha hb

end Go.Proofs.YtoablpaehhjchaaGreatDoor
