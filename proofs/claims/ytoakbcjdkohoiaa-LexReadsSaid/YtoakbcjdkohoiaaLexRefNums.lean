/-
  What the document's digits of layer 3 is: the Text behind "<".
-/
import Derived.Test.YtoakbcjdkohoiaaLexRefDigitsMath
import Derived.Test.YtoakbcjdkohoiaaLexRefText
namespace Go.Proofs.Ytoakbcjdkohoiaa
open Go.RowKit

def numsV (l : List UInt8) : List Value := l.map fun c => .int .i64 (c.toNat : Int)
theorem numsV_app (l m : List UInt8) : numsV (l ++ m) = numsV l ++ numsV m := by simp [numsV]
theorem info_i64 : (Try.prog.info? 3).map (fun i => (i.zero, i.size, i.bytes)) = some (some (.int .i64 0), 1, 8) := by kernel_rfl

/-- Numbers that the call itself has made. -/
def Nums (w : World) (B : Nat) (v : Value) (l : List UInt8) : Prop := w.ownsRow B 3 1 v l.length (numsV l)
theorem Nums.nil (w : World) (B : Nat) : Nums w B (.slice none 0 0) [] := World.ownsRow_nil _ _ _ _
theorem Nums.lt {w : World} {B : Nat} {v : Value} {l : List UInt8} (h : Nums w B v l) : ∀ k, v.ownBlock = some k → B ≤ k ∧ k < w.heap.size := World.ownsRow.lt h
theorem Nums.gb {w w' : World} {B : Nat} {v : Value} {l : List UInt8} (h : Nums w B v l) {r : Option Nat} (g : w.grownBy w' r) (hne : v.ownBlock = none ∨ v.ownBlock ≠ r) : Nums w' B v l := World.ownsRow.kept h g hne
theorem Nums.alloc {w : World} {B : Nat} {v : Value} {l : List UInt8} (h : Nums w B v l) (o : Obj) : Nums (w.alloc o) B v l := World.ownsRow.alloc h o
theorem Nums.parts {w : World} {B : Nat} {v : Value} {l : List UInt8} (h : Nums w B v l) :
    (v = .slice none 0 0 ∧ l = []) ∨ ∃ g cap cur, v = .slice (some ⟨g, 0, none⟩) l.length cap ∧ l.length ≤ cap ∧ B ≤ g ∧ Blk w g cur 3 ∧ ∀ (m : Nat) (hm : m < l.length), w.cell? ⟨g, m, none⟩ = some (.int .i64 (l[m].toNat : Int)) := by
  have h0 := h
  rcases h.2 with ⟨rfl, h1⟩ | ⟨g, cap, cur, rfl, hb, hh, hn, hc, hs, ht⟩
  · exact .inl ⟨rfl, List.length_eq_zero_iff.1 h1⟩
  · refine .inr ⟨g, cap, cur, rfl, hn, hb, hh, fun m hm => ?_⟩
    have := World.ownsRow.cellAt h0 m (by omega)
    rw [this]; simp [numsV, hm]
/-- Bytes of one's own lie elsewhere. -/
theorem Nums.app {w w' : World} {B C : Nat} {v u : Value} {l acc : List UInt8} (h : Nums w B v l) (ho : Owns w C u acc) (g : w.grownBy w' u.ownBlock) : Nums w' B v l := by
  refine h.gb g ?_
  rcases h.parts with ⟨rfl, _⟩ | ⟨b, cap, cur, rfl, _, _, hb, _⟩
  · exact .inl rfl
  · exact .inr (ho.ne hb (by decide))

/-- One number is appended. -/
theorem wpList_app_num {ops : Array Oper} {rest : List Oper} {o : Oper} {a : Act} {Q : Exit → Act → World → Prop} (hgd : o.guard = none) (s x : Operand)
    (ho : o.op = .call { callee := .builtin .append, args := #[s, x], argTypes := #[86, 86] })
    {W : World} {B : Nat} {v : Value} {l : List UInt8} (hown : Nums W B v l) (c : UInt8) (z : Int) (hz : z = (c.toNat : Int)) (hs : a.eval s = v)
    (hx : a.eval x = .slice (some ⟨W.heap.size, 0, none⟩) 1 1) (hB : B ≤ W.heap.size) (hlen : l.length + 1 ≤ 4294967296)
    (h : ∀ v' w', Nums w' B v' (l ++ [c]) → (W.alloc (.cells #[.int .i64 z] 3)).grownBy w' v.ownBlock → wpList Try.prog ops Q rest (a.put o.dst v') w') :
    wpList Try.prog ops Q (o :: rest) a (W.alloc (.cells #[.int .i64 z] 3)) := by
  obtain ⟨i0, hi, hz0, hz1, hz2⟩ := info_parts info_i64
  subst hz
  refine wpList_append_own _ hgd s x 86 ho B 3 i0 (.int .i64 0) 1 8 Try.underlying86 hi hz0 hz1 hz2 rfl (by decide) v l.length (numsV l) hs (hown.alloc _) ⟨W.heap.size, 0, none⟩ 1 1 [.int .i64 (c.toNat : Int)] hx rfl
    (cell_one_new _ _ _) (by simp [Value.oneCell']) (by unfold maxLen; omega) (by omega) (by simp; omega) ?_
  intro v' w' h1 h2 _
  refine h v' w' ?_ h2
  unfold Nums
  rw [numsV_app, List.length_append]
  exact h1

theorem hexI_neg {c : UInt8} (h : Lx.isHex c = false) : hexI c = -1 := hexI_no h
theorem white_not {c : UInt8} (h : Lx.white c = true) : c ≠ 62 := by
  have := Lx.byte_all (fun c => !Lx.white c || !(c == 62)) (by kernel_rfl) c
  rw [h] at this; simpa using this

end Go.Proofs.Ytoakbcjdkohoiaa
