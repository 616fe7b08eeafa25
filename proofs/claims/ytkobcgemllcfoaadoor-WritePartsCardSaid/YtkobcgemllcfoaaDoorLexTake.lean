/-
  The closure that goes over the bytes of a text, the one that tells where it stands, and takeAll: over whatever question on a byte that turns nothing.
-/
import Derived.Test.YtkobcgemllcfoaaDoorLexBytes
import Derived.Test.YtkobcgemllcfoaaDoorBlk
import Derived.Deep.LoopGhost
import Derived.Shelf.Abstract
namespace Go.Proofs.YtkobcgemllcfoaaDoor
open Go.RowKit

/-- The closures' variables: the text, and the place. -/
def At (s : ByteArray) (b k : Nat) (w : World) : Prop := Blk w b #[.string s] 9 ∧ Blk w (b + 1) #[.int .i64 k] 3
/-- A question on a byte that turns nothing. -/
def Fits (g : Nat) (lb : Array Value) (p : UInt8 → Bool) (w : World) : Prop :=
  ∀ c : UInt8, Calls Tryd.prog g (#[.int .u8 (c.toNat : Int)] ++ lb) w fun e w' => e = .returned (.bool (p c)) ∧ w = w'
def Ent (g : Nat) : Prop := ∀ args w, (callFunc g args).run Tryd.prog w = .ok (.enter g args) w

theorem gb_refl (w : World) (r : Option Nat) : w.grownBy w r := ⟨rfl, rfl, rfl, Nat.le_refl _, fun _ _ _ => rfl⟩
theorem gb_trans {a b c : World} {r : Option Nat} (h : a.grownBy b r) (k : b.grownBy c r) : a.grownBy c r :=
  ⟨k.os.trans h.os, k.tape.trans h.tape, k.output.trans h.output, Nat.le_trans h.size k.size, fun j hj hn => (k.block j (Nat.lt_of_lt_of_le hj h.size) hn).trans (h.block j hj hn)⟩
theorem gb_set (w : World) (k : Nat) (v : Value) : w.grownBy (w.setCell ⟨k, 0, none⟩ v) (some k) := by
  refine ⟨rfl, rfl, rfl, by simp, fun j _ hn => Below.heap_setCell w ⟨k, 0, none⟩ v j ?_⟩
  intro h; exact hn (by rw [h])
theorem At.set {s : ByteArray} {b k : Nat} {w : World} (h : At s b k w) (v : Int) (j : Nat) (hv : v = (j : Int)) : At s b j (w.setCell ⟨b + 1, 0, none⟩ (.int .i64 v)) := by
  subst hv
  exact ⟨h.1.other (by omega) _, by simpa using h.2.set 0 (.int .i64 (j : Int))⟩
theorem At.cells {s : ByteArray} {b k : Nat} {w : World} (h : At s b k w) : w.cell? ⟨b, 0, none⟩ = some (.string s) ∧ w.cell? ⟨b + 1, 0, none⟩ = some (.int .i64 k) ∧ w.frozen? ⟨b + 1, 0, none⟩ = false :=
  ⟨h.1.cell 0, h.2.cell 0, h.2.frozen 0⟩
theorem At.gb {s : ByteArray} {b k : Nat} {w w' : World} {r : Option Nat} (h : At s b k w) (g : w.grownBy w' r) (h1 : some b ≠ r) (h2 : some (b + 1) ≠ r) : At s b k w' :=
  ⟨(g.block b h.1.lt h1).trans h.1, (g.block (b + 1) h.2.lt h2).trans h.2⟩
theorem At.kept {s : ByteArray} {b k : Nat} {w w' : World} (h : At s b k w) (g : Kept w w') : At s b k w' := ⟨h.1.kept g, h.2.kept g⟩

theorem drop_cons (s : ByteArray) (k : Nat) (h : k < s.size) : s.data.toList.drop k = s[k] :: s.data.toList.drop (k + 1) := by
  rw [List.drop_eq_getElem_cons (by simpa using h)]; rfl
theorem drop_end (s : ByteArray) (k : Nat) (h : s.size ≤ k) : s.data.toList.drop k = [] := List.drop_eq_nil_of_le (by simpa using h)

end Go.Proofs.YtkobcgemllcfoaaDoor
