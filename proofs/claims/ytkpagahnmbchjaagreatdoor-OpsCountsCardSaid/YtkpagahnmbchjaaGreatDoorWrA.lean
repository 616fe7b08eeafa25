/-
  A set of texts that a call has made: which keys of a row of entries it holds; rows of objects alone.
  How the library's builder of texts stands in this program: WriteString's laying, by hand; what the closures put and told do.
  The closure that puts texts into a builder: what it leaves.
-/
import Derived.Test.YtkpagahnmbchjaaGreatDoorCosLies
import Derived.Test.YtkpagahnmbchjaaGreatDoorLexM
import Derived.Test.YtkpagahnmbchjaaGreatDoorXBase
import Derived.Maps.OwnSet
import Derived.Maps.Own
import Derived.Maps.OwnOps
import Derived.Maps.Views
import Derived.Test.YtkpagahnmbchjaaGreatDoorShelf
import Derived.Shelf.Strings.BuilderK
import Derived.Deep.LoopGhost
namespace Go.Proofs.YtkpagahnmbchjaaGreatDoor
open Go.RowKit Go.Maps Cx
set_option linter.unusedSimpArgs false
set_option linter.unusedVariables false

theorem kstrW : Keyed Tryz.prog 9 := string_keyed Tryz.underlying9

theorem zero_unit (w : World) : (zeroValue 154).run Tryz.prog w = .ok (.agg #[]) w := by kernel_rfl

theorem Kept.toG {w w' : World} (k : Kept w w') (r : Option Nat) : w.grownBy w' r := ⟨k.os, k.tape, k.output, k.size, fun j hj _ => k.block j hj⟩
theorem Kept.gOwn {w wx w' : World} {b : Nat} (h : Kept w wx) (g : wx.grownBy w' (some b)) (hb : w.heap.size ≤ b) : Kept w w' :=
  ⟨g.os.trans h.os, g.tape.trans h.tape, g.output.trans h.output, Nat.le_trans h.size g.size, fun j hj => (g.block j (Nat.lt_of_lt_of_le hj h.size) (fun e => by injection e with e; omega)).trans (h.block j hj)⟩

theorem In.kW {w wx : World} {l : BlkList} (h : In w l wx) : Kept w wx := h.1

/-- Block b is a set of at most n texts: the keys of d. -/
def Met (w : World) (b n : Nat) (d : List Entr) : Prop :=
  ∃ D : DataW Unit, w.ownsMap Tryz.prog 9 unitElem b n D ∧ ∀ key : ByteArray, Maps.has D (.string key.data.toList) = hasK d key

theorem Met.made (w : World) : Met (w.alloc (.map #[] 0)) w.heap.size 0 [] :=
  ⟨_, World.ownsMap_made w Tryz.prog 9 _, fun _ => rfl⟩
theorem Met.kept {w w' : World} {b n : Nat} {d : List Entr} (h : Met w b n d) (k : Kept w w') : Met w' b n d := by
  obtain ⟨D, ho, hJ⟩ := h
  exact ⟨D, ho.kept (k.toG none) (by simp), hJ⟩
theorem Met.lt {w : World} {b n : Nat} {d : List Entr} (h : Met w b n d) : b < w.heap.size := by
  obtain ⟨D, ho, _⟩ := h; exact ho.lt
theorem litW_ne {a b : ByteArray} (h : a ≠ b) : (Lit.string a.data.toList) ≠ .string b.data.toList := fun e => h (toList_inj (by rw [Lib.toList_data, Lib.toList_data]; injection e))

section
variable {ops : Array Oper} {rest : List Oper} {o : Oper} {a : Act} {Q : Exit → Act → World → Prop} {w : World} {b n : Nat} {d : List Entr}

set_option maxRecDepth 100000 in
theorem wpList_met_ok (hg : o.guard = none) (m x : Operand) (hop : o.op = Op.lookup 153 m x true) (hI : Met w b n d) (hm : a.eval m = .map (some b)) (key : ByteArray) (hx : a.eval x = .string key) (hk : key.size ≤ maxLen)
    (hK : wpList Tryz.prog ops Q rest (a.put o.dst (.tuple #[.agg #[], .bool (hasK d key)])) w) :
    wpList Tryz.prog ops Q (o :: rest) a w := by
  obtain ⟨D, ho, hJ⟩ := hI
  refine wpList_lookup_own_unit w hg m x 153 hop 9 154 kstrW Tryz.underlying153 (zero_unit w) b n D hm ho (.string key) (.string key.data.toList) hx (WideMaps.keyOf_string_mk Tryz.underlying9 hk) ?_
  rw [hJ key]; exact hK

set_option maxRecDepth 100000 in
theorem wpList_met_put (hg : o.guard = none) (m x v : Operand) (hop : o.op = Op.mapUpdate 153 m x v) (hI : Met w b n d) (hn : n < maxLen) (hm : a.eval m = .map (some b)) (e : Entr) (hx : a.eval x = .string e.1) (hk : e.1.size ≤ maxLen) (hv : a.eval v = .agg #[])
    (hK : ∀ w', Met w' b (n + 1) (d ++ [e]) → w.grownBy w' (some b) → wpList Tryz.prog ops Q rest (a.put o.dst undef) w') :
    wpList Tryz.prog ops Q (o :: rest) a w := by
  obtain ⟨D, ho, hJ⟩ := hI
  refine wpList_mapUpdate_own w hg m x v 153 hop 9 154 kstrW Tryz.underlying153 _ b n D hm ho hn (.string e.1) (.agg #[]) (.string e.1.data.toList) hx hv (WideMaps.keyOf_string_mk Tryz.underlying9 hk) _ [] unitElem_mk ?_
  intro w' ho' hg'
  refine hK w' ⟨_, ho', fun k' => ?_⟩ hg'
  rw [hasK_append, hasK, hasK, Bool.or_false]
  by_cases ek : e.1 = k'
  · subst ek
    rw [has_put_same (ho.tidy kstrW).isMap (by trivial), keq_self, Bool.or_true]
  · rw [has_put_other (litW_ne (fun h => ek h.symm)), hJ k', keq_no ek, Bool.or_false]
end

/-- A row of entries, or of objects, alone. -/
theorem Lies.rowD {R : Cells} {o : Ob} {h : Hd} (hl : Lies R o h) : Lies R (.mk 6 0 0 ⟨#[]⟩ [] o.d) ⟨none, 0, h.q, h.e⟩ := by
  cases hl with
  | mk k n f s l d h H E hk hl hlc hd hds hdc =>
    exact .mk 6 0 0 ⟨#[]⟩ [] d ⟨none, 0, h.q, h.e⟩ H E ⟨Nat.zero_le _, hk.2.1, Nat.zero_le _⟩ (fun _ hi => absurd hi (Nat.not_lt_zero _)) (fun _ hi => absurd hi (Nat.not_lt_zero _)) hd hds hdc
theorem Lies.rowL {R : Cells} {o : Ob} {h : Hd} (hl : Lies R o h) : Lies R (.mk 5 0 0 ⟨#[]⟩ o.l []) ⟨h.p, h.c, none, 0⟩ := by
  cases hl with
  | mk k n f s l d h H E hk hl hlc hd hds hdc =>
    exact .mk 5 0 0 ⟨#[]⟩ l [] ⟨h.p, h.c, none, 0⟩ H E ⟨hk.1, Nat.zero_le _, Nat.zero_le _⟩ hl hlc (fun _ hi => absurd hi (Nat.not_lt_zero _)) (fun _ hi => absurd hi (Nat.not_lt_zero _)) (fun _ hi => absurd hi (Nat.not_lt_zero _))

end Go.Proofs.YtkpagahnmbchjaaGreatDoor

namespace Go.Proofs.YtkpagahnmbchjaaGreatDoor
open Go.RowKit Cx
set_option linter.unusedSimpArgs false
set_option linter.unusedVariables false

def layW : Go.Shelf.Ren := ⟨fun | 166 => 19 | 240 => 31 | 276 => 42 | n => n, fun | 70 => 51 | 9 => 9 | 0 => 0 | 72 => 54 | 37 => 52 | 164 => 91 | 75 => 57 | 80 => 60 | 20 => 20 | 3 => 3 | 4 => 4 | 5 => 5 | n => n, fun | n => n⟩

theorem lays166 : Go.Proofs.Lays.n166 Tryz.prog layW := {
  mixed := by kernel_rfl
  f166 := Tryz.func19.trans (congrArg some (by kernel_rfl))
  f240 := Tryz.func31.trans (congrArg some (by kernel_rfl))
  f276 := Tryz.func42.trans (congrArg some (by kernel_rfl))
  t0 := Tryz.underlying0
  a0 := Tryz.isAgg0
  z0 := Tryz.sizeOf0
  v0 := Tryz.zeroValue0
  t3 := Tryz.underlying3
  a3 := Tryz.isAgg3
  z3 := Tryz.sizeOf3
  v3 := Tryz.zeroValue3
  t4 := Tryz.underlying4
  a4 := Tryz.isAgg4
  z4 := Tryz.sizeOf4
  v4 := Tryz.zeroValue4
  t9 := Tryz.underlying9
  a9 := Tryz.isAgg9
  z9 := Tryz.sizeOf9
  v9 := Tryz.zeroValue9
  t20 := Tryz.underlying20
  a20 := Tryz.isAgg20
  z20 := Tryz.sizeOf20
  v20 := Tryz.zeroValue20
  t37 := Tryz.underlying52
  a37 := Tryz.isAgg52
  z37 := Tryz.sizeOf52
  v37 := Tryz.zeroValue52
  t70 := Tryz.underlying51
  a70 := Tryz.isAgg51
  z70 := Tryz.sizeOf51
  v70 := Tryz.zeroValue51
  t72 := Tryz.underlying54
  a72 := Tryz.isAgg54
  z72 := Tryz.sizeOf54
  v72 := Tryz.zeroValue54
  t75 := Tryz.underlying57
  a75 := Tryz.isAgg57
  z75 := Tryz.sizeOf57
  v75 := Tryz.zeroValue57
  t164 := Tryz.underlying91
  a164 := Tryz.isAgg91
  z164 := Tryz.sizeOf91
  v164 := Tryz.zeroValue91 }

theorem extra166 : Go.Proofs.Builder.Extra Tryz.prog layW := {
  sizeBuilder := by kernel_rfl
  liesBuilder := by kernel_rfl
  t5 := Tryz.underlying5
  a5 := Tryz.isAgg5
  z5 := Tryz.sizeOf5
  v5 := Tryz.zeroValue5
  infoByte := by kernel_rfl
  cellsByte := by kernel_rfl
  sizeByte := by kernel_rfl
  neB5 := by decide }

theorem writeString_k (B b : Nat) (bs : List Value) (s : ByteArray) (w : World) (h : Lib.IsBuilderF 54 5 B b bs w) (hlen : bs.length + s.size ≤ 140737488355328) (hBw : B ≤ w.heap.size) :
    Calls Tryz.prog 19 #[.pointer (some ⟨b, 0, none⟩), .string s] w fun e w' => e = .returned (.tuple #[.int .i64 s.size, .nilIface]) ∧ (Lib.BuilderAtF 54 5 B b (.pointer (some ⟨b, 0, none⟩)) (bs ++ Lib.strCells s) w' ∧ Below B w w' ∧ Lib.OthersKept 5 (some b) w w') :=
  Go.Proofs.Any.Builder_WriteString_k lays166 extra166 B b bs s w h hlen hBw

end Go.Proofs.YtkpagahnmbchjaaGreatDoor

namespace Go.Proofs.YtkpagahnmbchjaaGreatDoor
open Go.RowKit Cx
set_option linter.unusedSimpArgs false
set_option linter.unusedVariables false

/-- Block b is a builder that holds these bytes; what lay below B when it was made is none of its. -/
def Bld (B b : Nat) (l : List UInt8) (w : World) : Prop := Lib.IsBuilderF 54 5 B b (Lib.byteCells l) w ∧ B ≤ w.heap.size

/-- Nothing below B has turned, and no block but the builder's, and rows of bytes. -/
def Fr (B b : Nat) (w w' : World) : Prop := Below B w w' ∧ Lib.OthersKept 5 (some b) w w'

theorem Fr.refl (B b : Nat) (w : World) : Fr B b w w := ⟨Below.refl B w, Lib.OthersKept.refl _ _ w⟩
theorem Fr.trans {B b : Nat} {w1 w2 w3 : World} (h : Fr B b w1 w2) (k : Fr B b w2 w3) : Fr B b w1 w3 := ⟨h.1.trans k.1, h.2.trans k.2⟩
theorem Fr.kept {B b : Nat} {w1 w2 w3 : World} (h : Fr B b w1 w2) (k : Kept w2 w3) (hB : B ≤ w2.heap.size) : Fr B b w1 w3 :=
  h.trans ⟨Below.mono k hB, fun i o hi _ _ => by
    have hlt : i < w2.heap.size := by
      rcases Nat.lt_or_ge i w2.heap.size with h | h
      · exact h
      · rw [Array.getElem?_eq_none h] at hi; cases hi
    rw [k.block i hlt]; exact hi⟩
theorem Fr.blk {B b k : Nat} {w w' : World} {cs : Array Value} {t : TypeId} (h : Fr B b w w') (hb : Blk w k cs t) (hk : k ≠ b) (ht : t ≠ 5) : Blk w' k cs t :=
  h.2 k _ hb (fun e => hk (by injection e)) fun c fz e => ht (by injection e)
theorem Fr.lies {B b : Nat} {w w' : World} {o : Ob} {h : Hd} (f : Fr B b w w') (hl : Lies (Cel (fun k => k < B) w) o h) : Lies (Cel (fun k => k < B) w') o h :=
  hl.keep fun k hk _ => ⟨hk, f.1.block k hk⟩
theorem Bld.at {B b : Nat} {l : List UInt8} {w : World} (h : Bld B b l w) : B ≤ b ∧ b < w.heap.size := by
  rcases h.1 with h | h
  · exact ⟨h.1, h.lt⟩
  · exact ⟨h.1, h.lt⟩
theorem BuilderAtF_kept {T e : TypeId} {B b : Nat} {p : Value} {bs : List Value} {w w' : World} (h : Lib.BuilderAtF T e B b p bs w) (k : Kept w w') : Lib.BuilderAtF T e B b p bs w' := by
  have hlt := h.lt
  obtain ⟨hB, v, hb, hown, hne⟩ := h
  refine ⟨hB, v, by rw [k.block b hlt]; exact hb, ⟨hown.1, ?_⟩, hne⟩
  rcases hown.2 with h | ⟨g, cap, cur, fz, hv, hbg, hg, r⟩
  · exact .inl h
  · refine .inr ⟨g, cap, cur, fz, hv, hbg, ?_, r⟩
    have hlt : g < w.heap.size := by
      rcases Nat.lt_or_ge g w.heap.size with h | h
      · exact h
      · rw [Array.getElem?_eq_none h] at hg; cases hg
    rw [k.block g hlt]; exact hg
theorem Bld.kept {B b : Nat} {l : List UInt8} {w w' : World} (h : Bld B b l w) (k : Kept w w') : Bld B b l w' :=
  ⟨h.1.elim (fun x => .inl (BuilderAtF_kept x k)) (fun x => .inr (BuilderAtF_kept x k)), Nat.le_trans h.2 k.size⟩
theorem cat_cells (l : List UInt8) (s : ByteArray) : Lib.byteCells l ++ Lib.strCells s = Lib.byteCells (l ++ s.data.toList) := by
  unfold Lib.byteCells Lib.strCells; rw [List.map_append]

/-- Texts, one behind the other. -/
def catT (ss : List ByteArray) : List UInt8 := ss.flatMap fun s => s.data.toList
theorem catT_snoc (ss : List ByteArray) (i : Nat) (h : i < ss.length) : catT (ss.take (i + 1)) = catT (ss.take i) ++ ss[i].data.toList := by
  unfold catT; rw [List.take_succ_eq_append_getElem h, List.flatMap_append]; simp
theorem catT_le (ss : List ByteArray) (i : Nat) : (catT (ss.take i)).length ≤ (catT ss).length := by
  have : catT ss = catT (ss.take i) ++ catT (ss.drop i) := by unfold catT; rw [← List.flatMap_append, List.take_append_drop]
  rw [this, List.length_append]; omega

set_option maxRecDepth 100000 in
set_option maxHeartbeats 4000000 in
theorem put_any (B b a : Nat) (l : List UInt8) (ss : List ByteArray) (w : World) (hb : Bld B b l w) (hr : Blk w a (ss.map Value.string).toArray 9) (hab : a ≠ b) (hlen : l.length + (catT ss).length ≤ 140737488355328) (hss : ss.length ≤ 1000) :
    Calls Tryz.prog 48 #[.slice (some ⟨a, 0, none⟩) ss.length ss.length, .pointer (some ⟨b, 0, none⟩)] w fun e w' => e = .returned (.tuple #[]) ∧ Bld B b (l ++ catT ss) w' ∧ Fr B b w w' := by
  have HB := Lib.hid hb
  have HR := Lib.hid hr
  have HL := Lib.hid hlen
  have HAB := Lib.hid hab
  clear hb hr hlen hab
  go_enter Tryz.func48, Tryz.ntmps48
  go_wp2_with fail
  go_loopg [7] (ss.length) (fun m i wr => ∃ j : Nat, m = ss.length - j ∧ j ≤ ss.length ∧ i = .int .i64 j ∧ Bld B b (l ++ catT (ss.take j)) wr ∧ Fr B b w wr)
  case atStart => exact ⟨0, by omega, Nat.zero_le _, rfl, by rw [List.take_zero]; show Bld B b (l ++ []) w; rw [List.append_nil]; exact HB.out, Fr.refl B b w⟩
  case round =>
    obtain ⟨j, hm, hj, rfl, hB, hF⟩ := hrel
    have HBR := Lib.hid hB
    have HF := Lib.hid hF
    clear hB hF
    by_cases hlt : j < ss.length
    · have hcell := (HF.out.blk HR.out HAB.out (by decide)).cell j
      have hcj : wr.cell? ⟨a, j, none⟩ = some (.string ss[j]) := by rw [hcell, List.getElem?_toArray, List.getElem?_map, List.getElem?_eq_getElem hlt]; rfl
      have HW := Lib.hid (writeString_k B b _ ss[j] wr HBR.out.1 (by
        have h1 := HL.out
        have h2 := catT_le ss (j + 1)
        rw [catT_snoc ss j hlt, List.length_append] at h2
        rw [Lib.byteCells_length, List.length_append]
        have h3 : ss[j].size = ss[j].data.toList.length := by rw [Array.length_toList]; rfl
        omega) HBR.out.2)
      have HS := Lib.hid (catT_snoc ss j hlt)
      obtain ⟨s, hs⟩ : ∃ s, s = ss[j] := ⟨_, rfl⟩
      rw [← hs] at hcj HW HS
      clear hcell hs
      go_wp2_with fail
      (with_reducible refine HW.out.mono ?_)
      rintro e w2 ⟨rfl, h1, h2, h3⟩
      have HB2 := Lib.hid (show Bld B b (l ++ catT (ss.take (j + 1))) w2 from ⟨.inr (by rw [HS.out, ← List.append_assoc, ← cat_cells]; exact h1), Nat.le_trans HBR.out.2 h2.size⟩)
      have HF2 := Lib.hid (HF.out.trans ⟨h2, h3⟩)
      clear h1 h2 h3 hcj
      go_wp2_with fail
      go_roundg (ss.length - (j + 1))
      case measure => omega
      case rel => exact ⟨j + 1, rfl, by omega, by go_num, HB2.out, HF2.out⟩
    · obtain rfl : j = ss.length := by omega
      have HA := Lib.hid (show Bld B b (l ++ catT ss) wr by have := HBR.out; rwa [List.take_of_length_le (Nat.le_refl _)] at this)
      go_wp2_with fail
      refine bodyPost_end (results_none rfl _ _ _) rfl ?_
      exact ⟨rfl, HA.out, HF.out⟩

end Go.Proofs.YtkpagahnmbchjaaGreatDoor
