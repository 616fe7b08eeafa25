/-
  Bytes of a call's own, or the marked ones of a constant text; what is laid behind them.
-/
import Derived.Test.YtkgaddlclfjkmaaMetChar
import Derived.Test.YtkgaddlclfjkmaaBlk
import Derived.Laws.AppendOwn
import Derived.Laws.OwnMore
import Derived.Laws.BytesArg
import Derived.Laws.IdiomStrings
import Derived.Lib.AppendStr
import Derived.Lib.AppendZeros
import Derived.Lib.SlBytesConst
import Derived.Lib.OthersKept
import Derived.Deep.AppendLies
import Derived.Sort.Grow
namespace Go.Proofs.Ytkgaddlclfjkmaa
open Go.RowKit
set_option linter.unusedSimpArgs false
set_option linter.unusedVariables false

theorem Mt.info_u8 : (Try.prog.info? 5).map (fun i => (i.zero, i.size, i.bytes)) = some (some (.int .u8 0), 1, 1) := by kernel_rfl
/-- Bytes of a call's own. -/
def OwB (w : World) (B : Nat) (v : Value) (l : List UInt8) : Prop := w.ownsRow B 5 1 v l.length (Lib.byteCells l)
/-- A full row that can be read; what owns it is not said. -/
def MkB (w : World) (v : Value) (l : List UInt8) : Prop :=
  ∃ g, v = .slice (some ⟨g, 0, none⟩) l.length l.length ∧ g < w.heap.size ∧ ∀ j u, (Lib.byteCells l)[j]? = some u → w.cell? ⟨g, j, none⟩ = some u
def BV (w : World) (B : Nat) (v : Value) (l : List UInt8) : Prop := OwB w B v l ∨ MkB w v l

theorem OwB.nil (w : World) (B : Nat) : OwB w B (.slice none 0 0) [] := World.ownsRow_nil _ _ _ _
theorem OwB.lt {w : World} {B : Nat} {v : Value} {l : List UInt8} (h : OwB w B v l) : ∀ k, v.ownBlock = some k → B ≤ k ∧ k < w.heap.size := World.ownsRow.lt h
theorem OwB.gb {w w' : World} {B : Nat} {v : Value} {l : List UInt8} (h : OwB w B v l) {r : Option Nat} (g : w.grownBy w' r) (hne : v.ownBlock = none ∨ v.ownBlock ≠ r) : OwB w' B v l := World.ownsRow.kept h g hne
theorem OwB.alloc {w : World} {B : Nat} {v : Value} {l : List UInt8} (h : OwB w B v l) (o : Obj) : OwB (w.alloc o) B v l := World.ownsRow.alloc h o
theorem OwB.drew {w : World} {B : Nat} {v : Value} {l : List UInt8} (h : OwB w B v l) : OwB w.drew B v l := h
theorem OwB.kind {w : World} {B : Nat} {v : Value} {l : List UInt8} (h : OwB w B v l) : ∀ g, v.ownBlock = some g → ∃ c fz, w.heap[g]? = some (.cells c 5 fz) := by
  intro g hg
  rcases h.2 with ⟨rfl, _⟩ | ⟨g', cap, cur, rfl, _, hh, _⟩
  · simp [Value.ownBlock] at hg
  · simp only [Value.ownBlock, Option.some.injEq] at hg
    subst hg
    exact ⟨cur, _, hh⟩
theorem OwB.string {w : World} {B : Nat} {v : Value} {l : List UInt8} (h : OwB w B v l) : (convert 45 9 v).run Try.prog w = .ok (.string ⟨l.toArray⟩) w := by
  rcases h.2 with ⟨rfl, h0⟩ | ⟨g, cap, cur, hv, _⟩
  · obtain rfl := List.length_eq_zero_iff.1 h0
    exact run_convert_bytes_nil (P := Try.prog) w 45 5 Try.underlying45 Try.underlying5 0 0 _ Try.underlying9
  · have hc := World.ownsRow.cells (g := g) h (by rw [hv]; rfl)
    subst hv
    refine run_convert_bytes_back (P := Try.prog) w 45 9 5 ⟨g, 0, none⟩ cap l Try.underlying45 Try.underlying5 Try.underlying9 fun j hj => ?_
    exact hc j _ (by simp [Lib.byteCells, hj])
theorem MkB.below {w w' : World} {v : Value} {l : List UInt8} (h : MkB w v l) (k : Below w.heap.size w w') : MkB w' v l := by
  obtain ⟨g, h2, h3, h4⟩ := h
  exact ⟨g, h2, Nat.lt_of_lt_of_le h3 k.size, fun j u hj => by rw [← h4 j u hj]; exact k.cell (p := ⟨g, _, none⟩) h3⟩
theorem MkB.new (w : World) (l : List UInt8) (C : Array Value) (hC : C.toList = Lib.byteCells l) (fr : Nat × Nat) : MkB (w.alloc (.cells C 5 fr)) (.slice (some ⟨w.heap.size, 0, none⟩) l.length l.length) l := by
  refine ⟨w.heap.size, rfl, by simp, fun j u hj => ?_⟩
  rw [World.cell?_alloc_mark, ← Array.getElem?_toList, hC]
  exact hj
theorem MkB.string {w : World} {v : Value} {l : List UInt8} (h : MkB w v l) : (convert 45 9 v).run Try.prog w = .ok (.string ⟨l.toArray⟩) w := by
  obtain ⟨g, rfl, -, hc⟩ := h
  refine run_convert_bytes_back (P := Try.prog) w 45 9 5 ⟨g, 0, none⟩ l.length l Try.underlying45 Try.underlying5 Try.underlying9 fun j hj => ?_
  rw [Addr.add_lit, Nat.zero_add]
  exact hc j _ (by simp [Lib.byteCells, hj])
theorem BV.string {w : World} {B : Nat} {v : Value} {l : List UInt8} (h : BV w B v l) : (convert 45 9 v).run Try.prog w = .ok (.string ⟨l.toArray⟩) w := h.elim (·.string) (·.string)

theorem mk_grownB (w : World) (B : Nat) (e : TypeId) (n m : Nat) (xs news : List Value) (hxl : xs.length = n) (hnl : news.length = m) (hm : 0 < m) (h63 : n + m ≤ maxLen) (hB : B ≤ w.heap.size) :
    (w.drew.alloc (.cells (xs.toArray ++ news.toArray ++ Builtin.zeroCells (Value.int .u8 0).cells (grownCap w (n + m) n e - (n + m))) e)).ownsRow B e 1
        (.slice (some ⟨w.heap.size, 0, none⟩) (n + m) (grownCap w (n + m) n e)) (n + m) (xs ++ news) ∧
      w.grownBy (w.drew.alloc (.cells (xs.toArray ++ news.toArray ++ Builtin.zeroCells (Value.int .u8 0).cells (grownCap w (n + m) n e - (n + m))) e)) none := by
  have hge := grownCap_ge w (n + m) n e
  have hcm : grownCap w (n + m) n e ≤ maxLen := grownCap_le_maxLen w (n + m) n e h63
  have hlen : (xs ++ news).length = (n + m) * 1 := by rw [List.length_append, hxl, hnl, Nat.mul_one]
  refine ⟨⟨hlen, .inr ⟨w.heap.size, _, _, rfl, hB, heap_alloc_new w.drew _, hge, hcm, ?_, ?_⟩⟩, ⟨rfl, rfl, rfl, by simp, fun k hk _ => heap_alloc_old w.drew _ hk⟩⟩
  · have hz1 : (Value.int IntKind.u8 0).cells.size = 1 := rfl
    simp only [Array.size_append, List.size_toArray, size_zeroCells, hz1, hxl, hnl]
    omega
  · simp only [Array.toList_append, List.append_assoc]
    rw [← List.append_assoc, ← hlen]
    exact List.take_left

/-- What is laid behind them. -/
def Behind (B : Nat) (w : World) (l : List UInt8) (v' : Value) (w' : World) : Prop := OwB w' B v' l ∧ Below B w w' ∧ Lib.OthersKept 5 none w w'

/-- Some bytes behind. -/
theorem wpList_app_bv {ops : Array Oper} {rest : List Oper} {o : Oper} {a : Act} {Q : Exit → Act → World → Prop} (hgd : o.guard = none) (s x : Operand)
    (ho : o.op = .call { callee := .builtin .append, args := #[s, x], argTypes := #[45, 45] })
    {W : World} {B : Nat} {v : Value} {l : List UInt8} (hown : BV W B v l) (hs : a.eval s = v) (news : List UInt8) (C : Array Value) (hC : C = (Lib.byteCells news).toArray) (m : Nat) (hm : m = news.length) (h0 : 0 < m)
    (hx : a.eval x = .slice (some ⟨W.heap.size, 0, none⟩) m m) (hB : B ≤ W.heap.size) (hlen : l.length + m ≤ 1099511627776)
    (h : ∀ v' w', Behind B W (l ++ news) v' w' → wpList Try.prog ops Q rest (a.put o.dst v') w') :
    wpList Try.prog ops Q (o :: rest) a (W.alloc (.cells C 5)) := by
  obtain ⟨i0, hi, hz0, hz1, hz2⟩ := info_parts Mt.info_u8
  subst hC
  have hcells : ∀ j u, (Lib.byteCells news)[j]? = some u → (W.alloc (.cells (Lib.byteCells news).toArray 5)).cell? ((⟨W.heap.size, 0, none⟩ : Addr).add j) = some u := by
    intro j u hj
    rw [Addr.add_lit, Nat.zero_add, (Blk.fresh W (Lib.byteCells news).toArray 5).cell j]
    simpa using hj
  have hnl : (Lib.byteCells news).length = m := by rw [Lib.byteCells_length, hm]
  rcases hown with hown | hown
  · have hk := hown.kind
    have hl0 := hown.lt
    refine wpList_append_lies _ hgd s x 45 ho B 5 i0 (.int .u8 0) 1 1 Try.underlying45 hi hz0 hz1 hz2 rfl (by decide) v l.length (Lib.byteCells l) hs (OwB.alloc hown _) ⟨W.heap.size, 0, none⟩ m m (Lib.byteCells news) hx (by rw [hnl, Nat.mul_one])
      hcells ?_ h0 (by unfold maxLen; omega) (by omega) (by simp; omega) _ rfl ?_
    · intro u hu
      simp only [Lib.byteCells, List.mem_map] at hu
      obtain ⟨b, -, rfl⟩ := hu
      rfl
    · intro g cap w' h1 h2 _ _
      refine h _ w' ⟨?_, ((Below.refl B W).alloc hB _).grown h2 (by simp; omega) (fun j hj => (hl0 j hj).1), ?_⟩
      · unfold OwB
        rw [Lib.byteCells_append, List.length_append, ← hm]
        exact h1
      · refine ((Lib.OthersKept.refl 5 none W).alloc _).grown h2 fun g hg => ?_
        obtain ⟨cc, fz, hh⟩ := hk g hg
        exact ⟨cc, fz, (heap_alloc_old W _ (hl0 g hg).2).trans hh⟩
  · obtain ⟨g, rfl, hg, hc⟩ := hown
    have hr := run_append_grow (P := Try.prog) (W.alloc (.cells (Lib.byteCells news).toArray 5)) 45 45 5 i0 (.int .u8 0) Try.underlying45 hi hz0 ⟨g, 0, none⟩ l.length l.length (Lib.byteCells l) (by rw [hz1, Lib.byteCells_length, Nat.mul_one])
      (fun j u hj => by
        rw [Addr.add_lit, Nat.zero_add]
        exact (((Below.refl _ W).alloc (Nat.le_refl _) _).cell (p := ⟨g, j, none⟩) hg).trans (hc j u hj))
      ⟨W.heap.size, 0, none⟩ m m (Lib.byteCells news) (by rw [hz1, hnl, Nat.mul_one]) hcells (by omega) (by omega) (by rw [hz2]; exact growslice_fits (by omega) (by omega))
    obtain ⟨h1, h2⟩ := mk_grownB (W.alloc (.cells (Lib.byteCells news).toArray 5)) B 5 l.length m (Lib.byteCells l) (Lib.byteCells news) (Lib.byteCells_length l) hnl h0 (by unfold maxLen; omega) (by simp; omega)
    refine Lib.wpList_append_run _ hgd _ _ 45 45 ho _ _ hs hx _ _ hr ?_
    refine h _ _ ⟨?_, ((Below.refl B W).alloc hB _).grown h2 (by simp; omega) (fun k hk => by cases hk), ((Lib.OthersKept.refl 5 none W).alloc _).grown h2 (fun k hk => by cases hk)⟩
    unfold OwB
    rw [Lib.byteCells_append, List.length_append, ← hm]
    exact h1

end Go.Proofs.Ytkgaddlclfjkmaa
