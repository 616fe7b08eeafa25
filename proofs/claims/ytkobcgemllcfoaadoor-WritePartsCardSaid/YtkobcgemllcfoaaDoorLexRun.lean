/-
  What lies in memory while a reader of package lex goes: its answer's block, the closures' variables, the bytes so far.
-/
import Derived.Test.YtkobcgemllcfoaaDoorLexSpace
import Derived.Laws.AppendOwn
import Derived.Laws.OwnMore
import Derived.Laws.BytesArg
import Derived.Laws.IdiomStrings
import Derived.OwnWalk
namespace Go.Proofs.YtkobcgemllcfoaaDoor
open Go.RowKit

theorem byte_is {c d : UInt8} (h : c = d) (n : Int) (hn : (d.toNat : Int) = n) : ((c.toNat : Int) == n) = true := by
  subst h; subst hn; simp
theorem byte_not {c d : UInt8} (h : c ≠ d) (n : Int) (hn : (d.toNat : Int) = n) : ((c.toNat : Int) == n) = false := by
  subst hn
  rw [beq_eq_false_iff_ne]
  intro e
  exact h (UInt8.toNat_inj.1 (by omega))

def bytesV (l : List UInt8) : List Value := l.map fun c => .int .u8 (c.toNat : Int)
theorem bytesV_len (l : List UInt8) : (bytesV l).length = l.length := by simp [bytesV]
theorem bytesV_app (l m : List UInt8) : bytesV (l ++ m) = bytesV l ++ bytesV m := by simp [bytesV]

theorem info_u8 : (Tryd.prog.info? 5).map (fun i => (i.zero, i.size, i.bytes)) = some (some (.int .u8 0), 1, 1) := by kernel_rfl

/-- The zero token's cells. -/
def tok0 : Array Value := #[.int .i64 0, .int .i64 0, .string ⟨#[]⟩, .bool false, .int .i64 0, .int .i64 0]

/-- Bytes that the call itself has made. -/
def Owns (w : World) (B : Nat) (v : Value) (acc : List UInt8) : Prop := w.ownsRow B 5 1 v acc.length (bytesV acc)

theorem Owns.nil (w : World) (B : Nat) : Owns w B (.slice none 0 0) [] := World.ownsRow_nil _ _ _ _
theorem Owns.ne {w : World} {B : Nat} {v : Value} {acc : List UInt8} (h : Owns w B v acc) {b : Nat} {cs : Array Value} {t : TypeId} (hb : Blk w b cs t) (ht : t ≠ 5) : some b ≠ v.ownBlock := by
  intro e
  rcases h.2 with ⟨rfl, _⟩ | ⟨g, cap, cur, rfl, _, hh, _⟩
  · simp [Value.ownBlock] at e
  · simp only [Value.ownBlock, Option.some.injEq] at e
    subst e
    unfold Blk at hb
    rw [hh] at hb
    simp only [Option.some.injEq, Obj.cells.injEq] at hb
    exact ht hb.2.1.symm
theorem Owns.lt {w : World} {B : Nat} {v : Value} {acc : List UInt8} (h : Owns w B v acc) : ∀ k, v.ownBlock = some k → B ≤ k ∧ k < w.heap.size := World.ownsRow.lt h
theorem Owns.gb {w w' : World} {B : Nat} {v : Value} {acc : List UInt8} (h : Owns w B v acc) {r : Option Nat} (g : w.grownBy w' r) (hne : v.ownBlock = none ∨ v.ownBlock ≠ r) : Owns w' B v acc := World.ownsRow.kept h g hne
theorem Owns.alloc {w : World} {B : Nat} {v : Value} {acc : List UInt8} (h : Owns w B v acc) (o : Obj) : Owns (w.alloc o) B v acc := World.ownsRow.alloc h o
theorem Blk.gb {w w' : World} {b : Nat} {cs : Array Value} {t : TypeId} (h : Blk w b cs t) {r : Option Nat} (g : w.grownBy w' r) (hne : some b ≠ r) : Blk w' b cs t := (g.block b h.lt hne).trans h

section
variable {w wr w' : World} {s : ByteArray} {k k' : Nat} {acc : List UInt8} {v v' : Value}
end

/-- Bytes as a string. -/
theorem Owns.string {w : World} {B : Nat} {v : Value} {acc : List UInt8} (h : Owns w B v acc) : (convert 38 9 v).run Tryd.prog w = .ok (.string ⟨acc.toArray⟩) w := by
  unfold Owns at h
  rcases h.2 with ⟨rfl, h0⟩ | ⟨g, cap, cur, rfl, hb, hh, hn, hc, hs, ht⟩
  · obtain rfl : acc = [] := List.length_eq_zero_iff.1 h0
    exact run_convert_bytes_nil (P := Tryd.prog) w 38 5 Tryd.underlying38 Tryd.underlying5 0 0 _ Tryd.underlying9
  · refine run_convert_bytes_back (P := Tryd.prog) w 38 9 5 ⟨g, 0, none⟩ cap acc Tryd.underlying38 Tryd.underlying5 Tryd.underlying9 fun j hj => ?_
    rw [Addr.add_lit, Nat.zero_add, World.ownsRow.cellAt h j (by omega)]
    simp [bytesV, hj]

/-- Bytes are appended to bytes of the call's own. -/
theorem wpList_app_bytes {ops : Array Oper} {rest : List Oper} {o : Oper} {a : Act} {Q : Exit → Act → World → Prop} (hgd : o.guard = none) (s x : Operand)
    (ho : o.op = .call { callee := .builtin .append, args := #[s, x], argTypes := #[38, 38] })
    {W : World} (B : Nat) (v : Value) (acc : List UInt8) (hs : a.eval s = v) (hown : Owns W B v acc) (news : List UInt8) (cells : Array Value) (hc : cells = (bytesV news).toArray) (m c : Nat) (hm : m = news.length)
    (hx : a.eval x = .slice (some ⟨W.heap.size, 0, none⟩) m c) (hB : B ≤ W.heap.size) (hlen : acc.length + news.length ≤ 140737488355328)
    (h : ∀ v' w', Owns w' B v' (acc ++ news) → (W.alloc (.cells cells 5)).grownBy w' v.ownBlock → wpList Tryd.prog ops Q rest (a.put o.dst v') w') :
    wpList Tryd.prog ops Q (o :: rest) a (W.alloc (.cells cells 5)) := by
  obtain ⟨i0, hi, hz0, hz1, hz2⟩ := info_parts info_u8
  subst hc
  subst hm
  refine wpList_append_own _ hgd s x 38 ho B 5 i0 (.int .u8 0) 1 1 Tryd.underlying38 hi hz0 hz1 hz2 rfl (by decide) v acc.length (bytesV acc) hs (hown.alloc _) ⟨W.heap.size, 0, none⟩ news.length c (bytesV news) hx (by simp [bytesV])
    ?_ ?_ (by unfold maxLen; omega) (by omega) (by simp; omega) ?_
  · intro j u hj
    rw [Addr.add_lit, Nat.zero_add]
    have := (Blk.fresh W (bytesV news).toArray 5).cell j
    rw [this]
    simpa using hj
  · intro u hu
    simp only [bytesV, List.mem_map] at hu
    obtain ⟨b, _, rfl⟩ := hu
    rfl
  · intro v' w' h1 h2 _
    refine h v' w' ?_ h2
    unfold Owns
    rw [bytesV_app, List.length_append]
    exact h1

theorem ret_tok {a b c d : Int} {x y : ByteArray} {p q : Bool} {e f g h i j : Int} (h1 : a = b) (h2 : c = d) (h3 : x = y) (h4 : p = q) (h5 : e = f) (h6 : g = h) (h7 : i = j) :
    Ending.returned (.tuple #[.agg #[.int .i64 a, .int .i64 c, .string x, .bool p, .int .i64 e, .int .i64 g], .int .i64 i]) = .returned (.tuple #[.agg #[.int .i64 b, .int .i64 d, .string y, .bool q, .int .i64 f, .int .i64 h], .int .i64 j]) := by
  rw [h1, h2, h3, h4, h5, h6, h7]

end Go.Proofs.YtkobcgemllcfoaaDoor
