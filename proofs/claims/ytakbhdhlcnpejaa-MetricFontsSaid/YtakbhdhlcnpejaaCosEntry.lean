/-
  What the rest's entryOf answers, if objectOf answers as it should.
-/
import Derived.Test.YtakbhdhlcnpejaaCosObject
namespace Go.Proofs.Ytakbhdhlcnpejaa
open Go.RowKit Cx

abbrev nul7 : Array Value := #[.string ⟨#[]⟩, .int .i64 0, .int .i64 0, .int .i64 0, .string ⟨#[]⟩, .slice none 0 0, .slice none 0 0]
theorem Blk.cells7 {w : World} {b : Nat} {v0 v1 v2 v3 v4 v5 v6 : Value} {t : TypeId} (h : Blk w b #[v0, v1, v2, v3, v4, v5, v6] t) : w.cell? ⟨b, 0, none⟩ = some v0 ∧ w.cell? ⟨b, 1, none⟩ = some v1 ∧ w.cell? ⟨b, 2, none⟩ = some v2 ∧ w.cell? ⟨b, 3, none⟩ = some v3 ∧ w.cell? ⟨b, 4, none⟩ = some v4 ∧ w.cell? ⟨b, 5, none⟩ = some v5 ∧ w.cell? ⟨b, 6, none⟩ = some v6 :=
  ⟨h.cell 0, h.cell 1, h.cell 2, h.cell 3, h.cell 4, h.cell 5, h.cell 6⟩

theorem entOf_eq (F : Nat) (l : List UInt8) (dep : Nat) (t : Lx.Tok) : entOf (F + 1) l dep t = if t.kind ≠ 2 then (3, (⟨#[]⟩, nul), 0) else
    if (objAt F l dep t.to).1 = 0 then (0, (str t.s, (objAt F l dep t.to).2.1), (objAt F l dep t.to).2.2) else ((objAt F l dep t.to).1, (⟨#[]⟩, nul), 0) := by
  rw [entOf, objAt]
  by_cases h2 : t.kind ≠ 2
  · rw [if_pos h2, if_pos h2]
  · rw [if_neg h2, if_neg h2]
    by_cases he : (Lx.nextV l (t.to : Int)).1 ≠ 0
    · rw [if_pos he, if_pos he, if_neg he]
    · rw [if_neg he, if_neg he]

end Go.Proofs.Ytakbhdhlcnpejaa
