/-
  What the law's plain answers of any object.
-/
import Derived.Test.YthpbipaekmedaaaGreatDoorWbC
import Derived.Test.YthpbipaekmedaaaGreatDoorWbA
import Derived.Test.YthpbipaekmedaaaGreatDoorWbB
import Derived.Test.YthpbipaekmedaaaGreatDoorWbPl5
import Derived.Test.YthpbipaekmedaaaGreatDoorWbPl6
import Derived.Test.YthpbipaekmedaaaGreatDoorWbPl8
namespace Go.Proofs.YthpbipaekmedaaaGreatDoor
open Go.RowKit Cx

theorem plain_step (P : Nat → Prop) (x : Ob) (IHL : ∀ z ∈ x.l, PlC P z) (IHD : ∀ e ∈ x.d, PlC P e.2) : PlC P x := by
  obtain ⟨k, n, f, s, l, d⟩ := x
  by_cases h1 : k = 1
  · subst h1; exact plain_1 P n f s l d IHL IHD
  by_cases h2 : k = 2
  · subst h2; exact plain_2 P n f s l d IHL IHD
  by_cases h3 : k = 3
  · subst h3; exact plain_3 P n f s l d IHL IHD
  by_cases h4 : k = 4
  · subst h4; exact plain_4 P n f s l d IHL IHD
  by_cases h5 : k = 5
  · subst h5; exact plain_5 P n f s l d IHL IHD
  by_cases h6 : k = 6
  · subst h6; exact plain_6 P n f s l d IHL IHD
  by_cases h7 : k = 7
  · subst h7; exact plain_7 P n f s l d IHL IHD
  by_cases h8 : k = 8
  · subst h8; exact plain_8 P n f s l d IHL IHD
  exact plain_x P k n f s l d ⟨h1, h2, h3, h4, h5, h6, h7, h8⟩ IHL IHD
theorem plain_all (P : Nat → Prop) (N : Nat) : ∀ (x : Ob), SizeOf.sizeOf x ≤ N → PlC P x := by
  induction N with
  | zero =>
    intro x hN
    cases x; simp at hN
  | succ N ih =>
    intro x hN
    exact plain_step P x (fun z hz => ih z (by have := sizeOf_l hz; omega)) (fun e he => ih e.2 (by have := sizeOf_d he; omega))
theorem plain_any (P : Nat → Prop) (x : Ob) (h : Hd) (w : World) (hl : Lies (Cel P w) x h) :
    Calls Tryz.prog 6 #[objV x h] w fun e w' => e = .returned (.bool (ex x.norm x)) ∧ Kept w w' := plain_all P _ x (Nat.le_refl _) h w hl

end Go.Proofs.YthpbipaekmedaaaGreatDoor
