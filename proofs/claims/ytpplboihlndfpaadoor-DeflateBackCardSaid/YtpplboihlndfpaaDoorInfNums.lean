/-
  Numbers of the call's own.
-/
import Derived.Test.YtpplboihlndfpaaDoorInfCodes
import Derived.Test.YtpplboihlndfpaaDoorInfTreeMem
import Derived.Test.YtpplboihlndfpaaDoorInfBits
import Derived.Deep.AppendLies
import Derived.Laws.AppendOwnNone
import Derived.Laws.OwnMore
namespace Go.Proofs.YtpplboihlndfpaaDoor
open Go.RowKit Ix
set_option linter.unusedSimpArgs false
set_option linter.unusedVariables false

/-- Numbers of the call's own. -/
def Nums (w : World) (B : Nat) (v : Value) (l : List Nat) : Prop := w.ownsRow B 3 1 v l.length (natsV l)
theorem Nums.gb {w w' : World} {B : Nat} {v : Value} {l : List Nat} (h : Nums w B v l) {r : Option Nat} (g : w.grownBy w' r) (hne : v.ownBlock = none ∨ v.ownBlock ≠ r) : Nums w' B v l := World.ownsRow.kept h g hne
theorem Nums.kept {w w' : World} {B : Nat} {v : Value} {l : List Nat} (h : Nums w B v l) (k : Kept w w') : Nums w' B v l :=
  h.gb (gbK k none) (by cases hv : v.ownBlock with
    | none => exact .inl rfl
    | some g => exact .inr (by simp))
theorem Nums.lit (W : World) {B0 : Nat} (hB : B0 ≤ W.heap.size) (l : List Nat) (h : l.length ≤ 1000) : Nums (W.alloc (.cells (natsV l).toArray 3)) B0 (.slice (some ⟨W.heap.size, 0, none⟩) l.length l.length) l := by
  have z := World.ownsRow_lit (base := B0) (e := 3) (size := 1) W (natsV l).toArray l.length hB (by unfold maxLen; omega) (by simp [natsV])
  unfold Nums
  simpa using z
theorem Nums.cell {w : World} {B g n cap : Nat} {l : List Nat} (h : Nums w B (.slice (some ⟨g, 0, none⟩) n cap) l) (hn : n = l.length) (i : Nat) (hi : i < l.length) : w.cell? ⟨g, i, none⟩ = some (.int .i64 (l[i] : Nat)) := by
  subst hn
  rw [World.ownsRow.cellAt h i (by omega)]
  simp [natsV, hi]
theorem wpList_app_nums {ops : Array Oper} {rest : List Oper} {o : Oper} {a : Act} {Q : Exit → Act → World → Prop} (hgd : o.guard = none) (s x : Operand)
    (ho : o.op = .call { callee := .builtin .append, args := #[s, x], argTypes := #[74, 74] })
    {W : World} {B : Nat} {v : Value} {l : List Nat} (hown : Nums W B v l) (hs : a.eval s = v) (news : List Nat) (cells : Array Value) (hcs : cells = (natsV news).toArray) (m : Nat) (hm : m = news.length) (h0 : 0 < m)
    (hx : a.eval x = .slice (some ⟨W.heap.size, 0, none⟩) m m) (hB : B ≤ W.heap.size) (hlen : l.length + m ≤ 1048576)
    (h : ∀ g cap w', Nums w' B (.slice (some ⟨g, 0, none⟩) (l.length + m) cap) (l ++ news) → (W.alloc (.cells cells 3)).grownBy w' v.ownBlock → wpList Tryd.prog ops Q rest (a.put o.dst (.slice (some ⟨g, 0, none⟩) (l.length + m) cap)) w') :
    wpList Tryd.prog ops Q (o :: rest) a (W.alloc (.cells cells 3)) := by
  obtain ⟨i0, hi, hz0, hz1, hz2⟩ := info_parts info_int
  subst hcs hm
  refine wpList_append_lies _ hgd s x 74 ho B 3 i0 (.int .i64 0) 1 8 Tryd.underlying74 hi hz0 hz1 hz2 rfl (by decide) v l.length (natsV l) hs (World.ownsRow.alloc hown _) ⟨W.heap.size, 0, none⟩ news.length news.length (natsV news) hx (by simp [natsV])
    ?_ ?_ h0 (by unfold maxLen; omega) (by omega) (by simp; omega) _ rfl ?_
  · intro j u hj
    rw [Addr.add_lit, Nat.zero_add, (Blk.fresh W (natsV news).toArray 3).cell j]
    simpa using hj
  · intro u hu
    simp only [natsV, List.mem_map] at hu
    obtain ⟨c, -, rfl⟩ := hu
    rfl
  · intro g cap w' h1 h2 _ _
    refine h g cap w' ?_ h2
    unfold Nums
    rw [List.length_append, show natsV (l ++ news) = natsV l ++ natsV news by simp [natsV]]
    exact h1

end Go.Proofs.YtpplboihlndfpaaDoor
