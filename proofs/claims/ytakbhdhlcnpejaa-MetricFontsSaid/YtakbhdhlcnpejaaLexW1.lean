/-
  What package lex's questions on one byte answer; none of them turns anything.
  The closure that goes over the bytes of a text, the one that tells where it stands, and takeAll: over whatever question on a byte that turns nothing.
  What package lex's Space answers, at every place.
  What lies in memory while a reader of package lex goes: its answer's block, the closures' variables, the bytes so far.
-/
import Derived.Test.YtakbhdhlcnpejaaXBase
import Derived.Test.YtakbhdhlcnpejaaFixWalks
import Derived.Test.YtakbhdhlcnpejaaMathS
import Derived.Test.YtakbhdhlcnpejaaShelf
import Derived.Deep.LoopGhost
import Derived.Shelf.Abstract
import Derived.Laws.AppendOwn
import Derived.Laws.OwnMore
import Derived.Laws.BytesArg
import Derived.Laws.IdiomStrings
import Derived.OwnWalk
namespace Go.Proofs.Ytakbhdhlcnpejaa
open Go.RowKit

theorem white_index (c : UInt8) : decide (0 ≤ Lib.indexByte [0, 9, 10, 12, 13, 32] c) = Lx.white c := by
  have := Lx.byte_all (fun c => decide (0 ≤ Lib.indexByte [0, 9, 10, 12, 13, 32] c) == Lx.white c) (by kernel_rfl) c
  simpa using this
theorem delim_index (c : UInt8) : decide (0 ≤ Lib.indexByte [40, 41, 60, 62, 91, 93, 123, 125, 47, 37] c) = Lx.delim c := by
  have := Lx.byte_all (fun c => decide (0 ≤ Lib.indexByte [40, 41, 60, 62, 91, 93, 123, 125, 47, 37] c) == Lx.delim c) (by kernel_rfl) c
  simpa using this

end Go.Proofs.Ytakbhdhlcnpejaa

namespace Go.Proofs.Ytakbhdhlcnpejaa
open Go.RowKit

/-- The closures' variables: the text, and the place. -/
def At (s : ByteArray) (b k : Nat) (w : World) : Prop := Blk w b #[.string s] 9 ∧ Blk w (b + 1) #[.int .i64 k] 3
/-- A question on a byte that turns nothing. -/
def Fits (g : Nat) (lb : Array Value) (p : UInt8 → Bool) (w : World) : Prop :=
  ∀ c : UInt8, Calls Try.prog g (#[.int .u8 (c.toNat : Int)] ++ lb) w fun e w' => e = .returned (.bool (p c)) ∧ w = w'
def Ent (g : Nat) : Prop := ∀ args w, (callFunc g args).run Try.prog w = .ok (.enter g args) w

theorem gb_refl (w : World) (r : Option Nat) : w.grownBy w r := ⟨rfl, rfl, rfl, Nat.le_refl _, fun _ _ _ => rfl⟩
theorem gb_trans {a b c : World} {r : Option Nat} (h : a.grownBy b r) (k : b.grownBy c r) : a.grownBy c r :=
  ⟨k.os.trans h.os, k.tape.trans h.tape, k.output.trans h.output, Nat.le_trans h.size k.size, fun j hj hn => (k.block j (Nat.lt_of_lt_of_le hj h.size) hn).trans (h.block j hj hn)⟩
theorem gb_set (w : World) (k : Nat) (v : Value) : w.grownBy (w.setCell ⟨k, 0, none⟩ v) (some k) := by
  refine ⟨rfl, rfl, rfl, by simp, fun j _ hn => Below.heap_setCell w ⟨k, 0, none⟩ v j ?_⟩
  intro h; exact hn (by rw [h])
theorem At.set {s : ByteArray} {b k : Nat} {w : World} (h : At s b k w) (v : Int) (j : Nat) (hv : v = (j : Int)) : At s b j (w.setCell ⟨b + 1, 0, none⟩ (.int .i64 v)) := by
  subst hv
  exact ⟨h.1.other (by omega) _, by simpa using h.2.set 0 (.int .i64 (j : Int))⟩
theorem At.cells {s : ByteArray} {b k : Nat} {w : World} (h : At s b k w) : w.cell? ⟨b, 0, none⟩ = some (.string s) ∧ w.cell? ⟨b + 1, 0, none⟩ = some (.int .i64 k) ∧ w.frozen? ⟨b + 1, 0, none⟩ = false :=
  ⟨h.1.cell 0, h.2.cell 0, h.2.frozen 0⟩
theorem At.gb {s : ByteArray} {b k : Nat} {w w' : World} {r : Option Nat} (h : At s b k w) (g : w.grownBy w' r) (h1 : some b ≠ r) (h2 : some (b + 1) ≠ r) : At s b k w' :=
  ⟨(g.block b h.1.lt h1).trans h.1, (g.block (b + 1) h.2.lt h2).trans h.2⟩
theorem At.kept {s : ByteArray} {b k : Nat} {w w' : World} (h : At s b k w) (g : Kept w w') : At s b k w' := ⟨h.1.kept g, h.2.kept g⟩

theorem drop_cons (s : ByteArray) (k : Nat) (h : k < s.size) : s.data.toList.drop k = s[k] :: s.data.toList.drop (k + 1) := by
  rw [List.drop_eq_getElem_cons (by simpa using h)]; rfl
theorem drop_end (s : ByteArray) (k : Nat) (h : s.size ≤ k) : s.data.toList.drop k = [] := List.drop_eq_nil_of_le (by simpa using h)

end Go.Proofs.Ytakbhdhlcnpejaa

namespace Go.Proofs.Ytakbhdhlcnpejaa
open Go.RowKit
theorem run_lower {P : Program} {w : World} (ts : Array TypeId) (t : TypeId) (k k' : IntKind) (x y : Int) : (Builtin.min_ ts t #[.int k x, .int k' y]).run P w = .ok (.int k (min x y)) w := by
  rw [run_min_int2]; congr 2; split <;> omega
theorem run_higher {P : Program} {w : World} (ts : Array TypeId) (t : TypeId) (k k' : IntKind) (x y : Int) : (Builtin.max_ ts t #[.int k x, .int k' y]).run P w = .ok (.int k (max x y)) w := by
  rw [run_max_int2]; congr 2; split <;> omega
attribute [local go_sem ↓] run_lower run_higher

theorem kept_over {w wr : World} {c0 c1 : Array Value} {t0 t1 : TypeId} {r : Option Nat} (h : ((w.alloc (.cells c0 t0)).alloc (.cells c1 t1)).grownBy wr r) (hr : ∀ j, r = some j → w.heap.size ≤ j) : Kept w wr :=
  (((Kept.refl w).alloc c0 t0).alloc c1 t1).grown h (by simp; omega) hr
theorem space_start (l : List UInt8) (a : Int) : ∃ k : Nat, min (max a 0) (l.length : Int) = (k : Int) ∧ k ≤ l.length ∧ Lx.spaceV l a = k + Lx.spc false (l.drop k) := by
  refine ⟨(min (max a 0) (l.length : Int)).toNat, ?_, ?_, rfl⟩ <;> omega

end Go.Proofs.Ytakbhdhlcnpejaa

namespace Go.Proofs.Ytakbhdhlcnpejaa
open Go.RowKit

theorem byte_is {c d : UInt8} (h : c = d) (n : Int) (hn : (d.toNat : Int) = n) : ((c.toNat : Int) == n) = true := by
  subst h; subst hn; simp
theorem byte_not {c d : UInt8} (h : c ≠ d) (n : Int) (hn : (d.toNat : Int) = n) : ((c.toNat : Int) == n) = false := by
  subst hn
  rw [beq_eq_false_iff_ne]
  intro e
  exact h (UInt8.toNat_inj.1 (by omega))

def bytesV (l : List UInt8) : List Value := l.map fun c => .int .u8 (c.toNat : Int)
theorem bytesV_len (l : List UInt8) : (bytesV l).length = l.length := by simp [bytesV]
theorem bytesV_app (l m : List UInt8) : bytesV (l ++ m) = bytesV l ++ bytesV m := by simp [bytesV]

theorem info_u8 : (Try.prog.info? 5).map (fun i => (i.zero, i.size, i.bytes)) = some (some (.int .u8 0), 1, 1) := by kernel_rfl

/-- The zero token's cells. -/
def tok0 : Array Value := #[.int .i64 0, .int .i64 0, .string ⟨#[]⟩, .bool false, .int .i64 0, .int .i64 0]

/-- Bytes that the call itself has made. -/
def Owns (w : World) (B : Nat) (v : Value) (acc : List UInt8) : Prop := w.ownsRow B 5 1 v acc.length (bytesV acc)

theorem Owns.nil (w : World) (B : Nat) : Owns w B (.slice none 0 0) [] := World.ownsRow_nil _ _ _ _
theorem Owns.ne {w : World} {B : Nat} {v : Value} {acc : List UInt8} (h : Owns w B v acc) {b : Nat} {cs : Array Value} {t : TypeId} (hb : Blk w b cs t) (ht : t ≠ 5) : some b ≠ v.ownBlock := by
  intro e
  rcases h.2 with ⟨rfl, _⟩ | ⟨g, cap, cur, rfl, _, hh, _⟩
  · simp [Value.ownBlock] at e
  · simp only [Value.ownBlock, Option.some.injEq] at e
    subst e
    unfold Blk at hb
    rw [hh] at hb
    simp only [Option.some.injEq, Obj.cells.injEq] at hb
    exact ht hb.2.1.symm
theorem Owns.lt {w : World} {B : Nat} {v : Value} {acc : List UInt8} (h : Owns w B v acc) : ∀ k, v.ownBlock = some k → B ≤ k ∧ k < w.heap.size := World.ownsRow.lt h
theorem Owns.gb {w w' : World} {B : Nat} {v : Value} {acc : List UInt8} (h : Owns w B v acc) {r : Option Nat} (g : w.grownBy w' r) (hne : v.ownBlock = none ∨ v.ownBlock ≠ r) : Owns w' B v acc := World.ownsRow.kept h g hne
theorem Owns.alloc {w : World} {B : Nat} {v : Value} {acc : List UInt8} (h : Owns w B v acc) (o : Obj) : Owns (w.alloc o) B v acc := World.ownsRow.alloc h o
theorem Blk.gb {w w' : World} {b : Nat} {cs : Array Value} {t : TypeId} (h : Blk w b cs t) {r : Option Nat} (g : w.grownBy w' r) (hne : some b ≠ r) : Blk w' b cs t := (g.block b h.lt hne).trans h

section
variable {w wr w' : World} {s : ByteArray} {k k' : Nat} {acc : List UInt8} {v v' : Value}
end

/-- Bytes as a string. -/
theorem Owns.string {w : World} {B : Nat} {v : Value} {acc : List UInt8} (h : Owns w B v acc) : (convert 72 9 v).run Try.prog w = .ok (.string ⟨acc.toArray⟩) w := by
  unfold Owns at h
  rcases h.2 with ⟨rfl, h0⟩ | ⟨g, cap, cur, rfl, hb, hh, hn, hc, hs, ht⟩
  · obtain rfl : acc = [] := List.length_eq_zero_iff.1 h0
    exact run_convert_bytes_nil (P := Try.prog) w 72 5 Try.underlying72 Try.underlying5 0 0 _ Try.underlying9
  · refine run_convert_bytes_back (P := Try.prog) w 72 9 5 ⟨g, 0, none⟩ cap acc Try.underlying72 Try.underlying5 Try.underlying9 fun j hj => ?_
    rw [Addr.add_lit, Nat.zero_add, World.ownsRow.cellAt h j (by omega)]
    simp [bytesV, hj]

/-- Bytes are appended to bytes of the call's own. -/
theorem wpList_app_bytes {ops : Array Oper} {rest : List Oper} {o : Oper} {a : Act} {Q : Exit → Act → World → Prop} (hgd : o.guard = none) (s x : Operand)
    (ho : o.op = .call { callee := .builtin .append, args := #[s, x], argTypes := #[72, 72] })
    {W : World} (B : Nat) (v : Value) (acc : List UInt8) (hs : a.eval s = v) (hown : Owns W B v acc) (news : List UInt8) (cells : Array Value) (hc : cells = (bytesV news).toArray) (m c : Nat) (hm : m = news.length)
    (hx : a.eval x = .slice (some ⟨W.heap.size, 0, none⟩) m c) (hB : B ≤ W.heap.size) (hlen : acc.length + news.length ≤ 140737488355328)
    (h : ∀ v' w', Owns w' B v' (acc ++ news) → (W.alloc (.cells cells 5)).grownBy w' v.ownBlock → wpList Try.prog ops Q rest (a.put o.dst v') w') :
    wpList Try.prog ops Q (o :: rest) a (W.alloc (.cells cells 5)) := by
  obtain ⟨i0, hi, hz0, hz1, hz2⟩ := info_parts info_u8
  subst hc
  subst hm
  refine wpList_append_own _ hgd s x 72 ho B 5 i0 (.int .u8 0) 1 1 Try.underlying72 hi hz0 hz1 hz2 rfl (by decide) v acc.length (bytesV acc) hs (hown.alloc _) ⟨W.heap.size, 0, none⟩ news.length c (bytesV news) hx (by simp [bytesV])
    ?_ ?_ (by unfold maxLen; omega) (by omega) (by simp; omega) ?_
  · intro j u hj
    rw [Addr.add_lit, Nat.zero_add]
    have := (Blk.fresh W (bytesV news).toArray 5).cell j
    rw [this]
    simpa using hj
  · intro u hu
    simp only [bytesV, List.mem_map] at hu
    obtain ⟨b, _, rfl⟩ := hu
    rfl
  · intro v' w' h1 h2 _
    refine h v' w' ?_ h2
    unfold Owns
    rw [bytesV_app, List.length_append]
    exact h1

theorem ret_tok {a b c d : Int} {x y : ByteArray} {p q : Bool} {e f g h i j : Int} (h1 : a = b) (h2 : c = d) (h3 : x = y) (h4 : p = q) (h5 : e = f) (h6 : g = h) (h7 : i = j) :
    Ending.returned (.tuple #[.agg #[.int .i64 a, .int .i64 c, .string x, .bool p, .int .i64 e, .int .i64 g], .int .i64 i]) = .returned (.tuple #[.agg #[.int .i64 b, .int .i64 d, .string y, .bool q, .int .i64 f, .int .i64 h], .int .i64 j]) := by
  rw [h1, h2, h3, h4, h5, h6, h7]

end Go.Proofs.Ytakbhdhlcnpejaa
