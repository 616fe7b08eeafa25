/-
  The closure that puts texts into a builder: what it leaves.
-/
import Derived.Test.YtkobcgemllcfoaaDoorWriteLay
import Derived.Deep.LoopGhost
namespace Go.Proofs.YtkobcgemllcfoaaDoor
open Go.RowKit Cx
set_option linter.unusedSimpArgs false
set_option linter.unusedVariables false

/-- Block b is a builder that holds these bytes; what lay below B when it was made is none of its. -/
def Bld (B b : Nat) (l : List UInt8) (w : World) : Prop := Lib.IsBuilderF 90 5 B b (Lib.byteCells l) w ∧ B ≤ w.heap.size

/-- Nothing below B has turned, and no block but the builder's, and rows of bytes. -/
def Fr (B b : Nat) (w w' : World) : Prop := Below B w w' ∧ Lib.OthersKept 5 (some b) w w'

theorem Fr.refl (B b : Nat) (w : World) : Fr B b w w := ⟨Below.refl B w, Lib.OthersKept.refl _ _ w⟩
theorem Fr.trans {B b : Nat} {w1 w2 w3 : World} (h : Fr B b w1 w2) (k : Fr B b w2 w3) : Fr B b w1 w3 := ⟨h.1.trans k.1, h.2.trans k.2⟩
theorem Fr.kept {B b : Nat} {w1 w2 w3 : World} (h : Fr B b w1 w2) (k : Kept w2 w3) (hB : B ≤ w2.heap.size) : Fr B b w1 w3 :=
  h.trans ⟨Below.mono k hB, fun i o hi _ _ => by
    have hlt : i < w2.heap.size := by
      rcases Nat.lt_or_ge i w2.heap.size with h | h
      · exact h
      · rw [Array.getElem?_eq_none h] at hi; cases hi
    rw [k.block i hlt]; exact hi⟩
theorem Fr.blk {B b k : Nat} {w w' : World} {cs : Array Value} {t : TypeId} (h : Fr B b w w') (hb : Blk w k cs t) (hk : k ≠ b) (ht : t ≠ 5) : Blk w' k cs t :=
  h.2 k _ hb (fun e => hk (by injection e)) fun c fz e => ht (by injection e)
theorem Fr.lies {B b : Nat} {w w' : World} {o : Ob} {h : Hd} (f : Fr B b w w') (hl : Lies (Cel (fun k => k < B) w) o h) : Lies (Cel (fun k => k < B) w') o h :=
  hl.keep fun k hk _ => ⟨hk, f.1.block k hk⟩
theorem Bld.at {B b : Nat} {l : List UInt8} {w : World} (h : Bld B b l w) : B ≤ b ∧ b < w.heap.size := by
  rcases h.1 with h | h
  · exact ⟨h.1, h.lt⟩
  · exact ⟨h.1, h.lt⟩
theorem BuilderAtF_kept {T e : TypeId} {B b : Nat} {p : Value} {bs : List Value} {w w' : World} (h : Lib.BuilderAtF T e B b p bs w) (k : Kept w w') : Lib.BuilderAtF T e B b p bs w' := by
  have hlt := h.lt
  obtain ⟨hB, v, hb, hown, hne⟩ := h
  refine ⟨hB, v, by rw [k.block b hlt]; exact hb, ⟨hown.1, ?_⟩, hne⟩
  rcases hown.2 with h | ⟨g, cap, cur, fz, hv, hbg, hg, r⟩
  · exact .inl h
  · refine .inr ⟨g, cap, cur, fz, hv, hbg, ?_, r⟩
    have hlt : g < w.heap.size := by
      rcases Nat.lt_or_ge g w.heap.size with h | h
      · exact h
      · rw [Array.getElem?_eq_none h] at hg; cases hg
    rw [k.block g hlt]; exact hg
theorem Bld.kept {B b : Nat} {l : List UInt8} {w w' : World} (h : Bld B b l w) (k : Kept w w') : Bld B b l w' :=
  ⟨h.1.elim (fun x => .inl (BuilderAtF_kept x k)) (fun x => .inr (BuilderAtF_kept x k)), Nat.le_trans h.2 k.size⟩
theorem cat_cells (l : List UInt8) (s : ByteArray) : Lib.byteCells l ++ Lib.strCells s = Lib.byteCells (l ++ s.data.toList) := by
  unfold Lib.byteCells Lib.strCells; rw [List.map_append]

/-- Texts, one behind the other. -/
def catT (ss : List ByteArray) : List UInt8 := ss.flatMap fun s => s.data.toList
theorem catT_snoc (ss : List ByteArray) (i : Nat) (h : i < ss.length) : catT (ss.take (i + 1)) = catT (ss.take i) ++ ss[i].data.toList := by
  unfold catT; rw [List.take_succ_eq_append_getElem h, List.flatMap_append]; simp
theorem catT_le (ss : List ByteArray) (i : Nat) : (catT (ss.take i)).length ≤ (catT ss).length := by
  have : catT ss = catT (ss.take i) ++ catT (ss.drop i) := by unfold catT; rw [← List.flatMap_append, List.take_append_drop]
  rw [this, List.length_append]; omega

set_option maxRecDepth 100000 in
set_option maxHeartbeats 4000000 in
theorem put_any (B b a : Nat) (l : List UInt8) (ss : List ByteArray) (w : World) (hb : Bld B b l w) (hr : Blk w a (ss.map Value.string).toArray 9) (hab : a ≠ b) (hlen : l.length + (catT ss).length ≤ 140737488355328) (hss : ss.length ≤ 1000) :
    Calls Tryd.prog 56 #[.slice (some ⟨a, 0, none⟩) ss.length ss.length, .pointer (some ⟨b, 0, none⟩)] w fun e w' => e = .returned (.tuple #[]) ∧ Bld B b (l ++ catT ss) w' ∧ Fr B b w w' := by
  have HB := Lib.hid hb
  have HR := Lib.hid hr
  have HL := Lib.hid hlen
  have HAB := Lib.hid hab
  clear hb hr hlen hab
  go_enter Tryd.func56, Tryd.ntmps56
  go_wp2_with fail
  go_loopg [7] (ss.length) (fun m i wr => ∃ j : Nat, m = ss.length - j ∧ j ≤ ss.length ∧ i = .int .i64 j ∧ Bld B b (l ++ catT (ss.take j)) wr ∧ Fr B b w wr)
  case atStart => exact ⟨0, by omega, Nat.zero_le _, rfl, by rw [List.take_zero]; show Bld B b (l ++ []) w; rw [List.append_nil]; exact HB.out, Fr.refl B b w⟩
  case round =>
    obtain ⟨j, hm, hj, rfl, hB, hF⟩ := hrel
    have HBR := Lib.hid hB
    have HF := Lib.hid hF
    clear hB hF
    by_cases hlt : j < ss.length
    · have hcell := (HF.out.blk HR.out HAB.out (by decide)).cell j
      have hcj : wr.cell? ⟨a, j, none⟩ = some (.string ss[j]) := by rw [hcell, List.getElem?_toArray, List.getElem?_map, List.getElem?_eq_getElem hlt]; rfl
      have HW := Lib.hid (writeString_k B b _ ss[j] wr HBR.out.1 (by
        have h1 := HL.out
        have h2 := catT_le ss (j + 1)
        rw [catT_snoc ss j hlt, List.length_append] at h2
        rw [Lib.byteCells_length, List.length_append]
        have h3 : ss[j].size = ss[j].data.toList.length := by rw [Array.length_toList]; rfl
        omega) HBR.out.2)
      have HS := Lib.hid (catT_snoc ss j hlt)
      obtain ⟨s, hs⟩ : ∃ s, s = ss[j] := ⟨_, rfl⟩
      rw [← hs] at hcj HW HS
      clear hcell hs
      go_wp2_with fail
      (with_reducible refine HW.out.mono ?_)
      rintro e w2 ⟨rfl, h1, h2, h3⟩
      have HB2 := Lib.hid (show Bld B b (l ++ catT (ss.take (j + 1))) w2 from ⟨.inr (by rw [HS.out, ← List.append_assoc, ← cat_cells]; exact h1), Nat.le_trans HBR.out.2 h2.size⟩)
      have HF2 := Lib.hid (HF.out.trans ⟨h2, h3⟩)
      clear h1 h2 h3 hcj
      go_wp2_with fail
      go_roundg (ss.length - (j + 1))
      case measure => omega
      case rel => exact ⟨j + 1, rfl, by omega, by go_num, HB2.out, HF2.out⟩
    · obtain rfl : j = ss.length := by omega
      have HA := Lib.hid (show Bld B b (l ++ catT ss) wr by have := HBR.out; rwa [List.take_of_length_le (Nat.le_refl _)] at this)
      go_wp2_with fail
      refine bodyPost_end (results_none rfl _ _ _) rfl ?_
      exact ⟨rfl, HA.out, HF.out⟩

end Go.Proofs.YtkobcgemllcfoaaDoor
