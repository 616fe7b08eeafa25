/-
  The document's example of package xref.
-/
import Derived.Test.YtoablpaehhjchaaGreatDoorXrfWrote
import Derived.Test.YtoablpaehhjchaaGreatDoorXrfMerge
import Derived.Test.YtoablpaehhjchaaGreatDoorXrfStart
namespace Go.Proofs.YtoablpaehhjchaaGreatDoor
open Go.RowKit Rx
set_option linter.unusedSimpArgs false
set_option linter.unusedVariables false

def exE : Xent := ⟨1, 15, 0, true⟩
def exM1 : Xent := ⟨1, 0, 0, false⟩
def exM2 : Xent := ⟨2, 0, 0, false⟩
def exT : List UInt8 := [120, 114, 101, 102, 10, 49, 32, 49, 10, 48, 48, 48, 48, 48, 48, 48, 48, 49, 53, 32, 48, 48, 48, 48, 48, 32, 110, 32, 10]
theorem exW : writeV [exE] = exT := by kernel_rfl
theorem exWE : writeE [exE] = 0 := by kernel_rfl
def exS : List UInt8 := [97, 32, 115, 116, 97, 114, 116, 120, 114, 101, 102, 10, 55, 10]
theorem exStart : startX exS = (0, 7) := by kernel_rfl
def eC (e : Xent) : Array Value := #[.int .i64 e.n, .int .i64 e.off, .int .i64 e.gen, .bool e.used]
/-- One entry in a block of its own. -/
theorem one_sl {w : World} {k : Nat} {e : Xent} {t : TypeId} (h : Blk w k (eC e) t) : Sl w (some ⟨k, 0, none⟩) 1 [e] := by
  refine ⟨fun i hi => ?_, (fun h => by cases h), Nat.le_refl _⟩
  have hi : i < 1 := hi
  obtain rfl : i = 0 := by omega
  refine ⟨k, 0, rfl, h.lt, ?_, ?_, ?_, ?_⟩
  all_goals (rw [h.cell]; rfl)
theorem exMerge_any (w : World) (p q : Option Addr) (ha : Sl w p 1 [exM1]) (hb : Sl w q 1 [exM2]) :
    Calls Tryz.prog 11 #[.slice p 1 1, .slice q 1 1] w fun e w' => ∃ p' c', e = .returned (.slice p' 2 c') ∧ Kept w w' := by
  refine (Merge_any [exM1] [exM2] p q 1 1 w ha hb (by decide) (fun e he => ?_)).mono ?_
  · have : e = exM1 ∨ e = exM2 := by simpa using he
    unfold Wf
    rcases this with rfl | rfl <;> exact ⟨by decide, by decide⟩
  · rintro e w' ⟨v, m, rfl, hm, hE, hk⟩
    obtain ⟨p', c', rfl, -⟩ := hE.shape
    have : m = [exM1, exM2] := by
      refine rise_ext _ _ hm.1 (by unfold Rise; simp [exM1, exM2]) fun x => ?_
      rw [hm.2 x]
      show first [exM1, exM2] x.n = some x ↔ _
      rw [first_cons, first_cons]
      have e0 : first ([] : List Xent) x.n = none := rfl
      rw [e0]
      constructor
      · intro h
        split at h
        · have := Option.some.inj h; simp [← this]
        · split at h
          · have := Option.some.inj h; simp [← this]
          · cases h
      · intro h
        have : x = exM1 ∨ x = exM2 := by simpa using h
        rcases this with rfl | rfl <;> rfl
    rw [this]
    exact ⟨p', c', rfl, hk⟩

set_option maxRecDepth 100000 in
set_option maxHeartbeats 8000000 in
theorem awake8_any (B : Nat) (w : World) (hm : HasMax w) (hf : TB B w) (hB : B ≤ w.heap.size) : Calls Tryz.prog 6 #[] w fun e w' => e = .returned (.bool true) ∧ Kept w w' := by
  have HM := Lib.hid hm
  have B1 := Lib.hid (Blk.fresh w #[.int .i64 1, .int .i64 15, .int .i64 0, .bool true] 65)
  have K1 := Lib.hid (show Kept w (w.alloc (.cells #[.int .i64 1, .int .i64 15, .int .i64 0, .bool true] 65)) from (Kept.refl w).allocO _)
  have S1 := Lib.hid (show Sl (w.alloc (.cells #[.int .i64 1, .int .i64 15, .int .i64 0, .bool true] 65)) (some ⟨w.heap.size, 0, none⟩) 1 [exE] from one_sl (e := exE) B1.out)
  have CW := Lib.hid (show Calls Tryz.prog 7 #[.slice (some ⟨w.heap.size, 0, none⟩) 1 1] (w.alloc (.cells #[.int .i64 1, .int .i64 15, .int .i64 0, .bool true] 65)) fun e w' => e = .returned (.tuple #[.string ⟨exT.toArray⟩, .int .i64 0]) ∧ Kept (w.alloc (.cells #[.int .i64 1, .int .i64 15, .int .i64 0, .bool true] 65)) w' from by
    have z := Write_any [exE] _ 1 B _ S1.out.1 (hf.kept hB K1.out) (Nat.le_trans hB (Below.size K1.out)) (fun t ht => by rw [List.mem_singleton.1 ht]; exact ⟨by decide, by decide⟩) (by decide) (by decide)
    rw [exW, exWE] at z
    exact z)
  have CS := Lib.hid (fun W (hk : Kept w W) => show Calls Tryz.prog 25 #[.string ⟨#[97, 32, 115, 116, 97, 114, 116, 120, 114, 101, 102, 10, 55, 10]⟩] W fun e w' => e = .returned (.tuple #[.int .i64 7, .int .i64 0]) ∧ Kept W w' from
    Start_any ⟨#[97, 32, 115, 116, 97, 114, 116, 120, 114, 101, 102, 10, 55, 10]⟩ W (by decide) (HM.out.kept hk) (0, 7) exStart.symm)
  clear hm hf hB
  unfold exT at CW
  go_enter Tryz.func6, Tryz.ntmps6
  go_wp2_with fail
  (with_reducible refine CW.out.mono ?_)
  rintro e w1 ⟨rfl, hk1⟩
  have K2 := Lib.hid (K1.out.trans hk1)
  clear hk1
  go_wp2_with fail
  (with_reducible refine (CS.out w1 K2.out).mono ?_)
  rintro e w2 ⟨rfl, hk2⟩
  have K3 := Lib.hid (K2.out.trans hk2)
  clear hk2
  have D1 := Lib.hid (Blk.fresh w2 #[.int .i64 1, .int .i64 0, .int .i64 0, .bool false] 65)
  have K4 := Lib.hid (show Kept w ((w2.alloc (.cells #[.int .i64 1, .int .i64 0, .int .i64 0, .bool false] 65)).alloc (.cells #[.int .i64 2, .int .i64 0, .int .i64 0, .bool false] 65)) from (K3.out.allocO _).allocO _)
  have D2 := Lib.hid (show Blk ((w2.alloc (.cells #[.int .i64 1, .int .i64 0, .int .i64 0, .bool false] 65)).alloc (.cells #[.int .i64 2, .int .i64 0, .int .i64 0, .bool false] 65)) (w2.heap.size + 1) #[.int .i64 2, .int .i64 0, .int .i64 0, .bool false] 65 from Blk.fresh' _ _ (by simp))
  have CM := Lib.hid (exMerge_any _ (some ⟨w2.heap.size, 0, none⟩) (some ⟨w2.heap.size + 1, 0, none⟩) (one_sl (e := exM1) (D1.out.alloc (.cells #[.int .i64 2, .int .i64 0, .int .i64 0, .bool false] 65))) (one_sl (e := exM2) D2.out))
  go_wp2_with fail
  (with_reducible refine CM.out.mono ?_)
  rintro e w3 ⟨p', c', rfl, hk3⟩
  have K5 := Lib.hid (K4.out.trans hk3)
  clear hk3
  go_wp2_with fail
  go_ret
  exact ⟨rfl, K5.out⟩

/-- What the laws of this package ask of the world. -/
def Okw (w : World) : Prop := HasMax w ∧ ∃ B, TB B w ∧ B ≤ w.heap.size

end Go.Proofs.YtoablpaehhjchaaGreatDoor
