/-
  The document's example of package inflate.
-/
import Derived.Test.YtkobcgemllcfoaaDoorInfZlib
import Derived.Lib.SlBytesConst
namespace Go.Proofs.YtkobcgemllcfoaaDoor
open Go.RowKit Ix
set_option linter.unusedSimpArgs false
set_option linter.unusedVariables false

theorem Out.string {w : World} {B : Nat} {v : Value} {l : List UInt8} (h : Out w B v l) : (convert 38 9 v).run Tryd.prog w = .ok (.string ⟨l.toArray⟩) w := by
  rcases h.parts with ⟨rfl, rfl⟩ | ⟨g, cap, rfl, hg, hc⟩
  · exact run_convert_bytes_nil (P := Tryd.prog) w 38 5 Tryd.underlying38 Tryd.underlying5 0 0 _ Tryd.underlying9
  · refine run_convert_bytes_back (P := Tryd.prog) w 38 9 5 ⟨g, 0, none⟩ cap l Tryd.underlying38 Tryd.underlying5 Tryd.underlying9 fun j hj => ?_
    rw [Addr.add_lit, Nat.zero_add]
    exact hc j hj

def exB : List UInt8 := [120, 156, 75, 4, 0, 0, 98, 0, 98]
theorem exB_at {w : World} {k : Nat} {t : TypeId} (h : Blk w k #[.int .u8 120, .int .u8 156, .int .u8 75, .int .u8 4, .int .u8 0, .int .u8 0, .int .u8 98, .int .u8 0, .int .u8 98] t) : ByR w w.heap.size (some ⟨k, 0, none⟩) exB := by
  intro i hi
  refine ⟨k, 0, rfl, h.lt, ?_⟩
  rw [Nat.zero_add, h.cell]
  have hi : i < 9 := hi
  rcases (show i = 0 ∨ i = 1 ∨ i = 2 ∨ i = 3 ∨ i = 4 ∨ i = 5 ∨ i = 6 ∨ i = 7 ∨ i = 8 by omega) with rfl | rfl | rfl | rfl | rfl | rfl | rfl | rfl | rfl <;> rfl

theorem byte_at (w : World) (fr : Nat × Nat) : ByR (w.alloc (.cells #[.int .u8 97] 5 fr)) (w.alloc (.cells #[.int .u8 97] 5 fr)).heap.size (some ⟨w.heap.size, 0, none⟩) [97] := by
  intro i hi
  refine ⟨w.heap.size, 0, rfl, by simp, ?_⟩
  rw [Nat.zero_add, World.cell?_alloc_mark]
  have hi : i < 1 := hi
  obtain rfl : i = 0 := by omega
  rfl

set_option maxRecDepth 100000 in
theorem awake6_any (w : World) (ho : Ordd w) : Calls Tryd.prog 20 #[] w fun e w' => e = .returned (.bool true) ∧ Kept w w' := by
  have HORD := Lib.hid ho
  clear ho
  have ZA := Lib.hid (fun w' c (h : ByR w' w'.heap.size (some ⟨w.heap.size, 0, none⟩) exB) (hc : 9 ≤ c) (ko : Kept w w') => (show Calls Tryd.prog 23 #[.slice (some ⟨w.heap.size, 0, none⟩) 9 c] w' (RawA w' (.ok ([97], 9))) by
    have z := Zlib_any exB _ c w' h hc (by decide) (HORD.out.kept ko)
    unfold exB at z
    rw [zlib_example] at z
    exact z))
  have K0 := Lib.hid (show Kept w (w.alloc (.cells #[.int .u8 120, .int .u8 156, .int .u8 75, .int .u8 4, .int .u8 0, .int .u8 0, .int .u8 98, .int .u8 0, .int .u8 98] 5)) from (Kept.refl w).allocO _)
  have B0 := Lib.hid (Blk.fresh w #[.int .u8 120, .int .u8 156, .int .u8 75, .int .u8 4, .int .u8 0, .int .u8 0, .int .u8 98, .int .u8 0, .int .u8 98] 5)
  go_enter Tryd.func20, Tryd.ntmps20
  go_wp2_with fail
  (with_reducible refine (ZA.out _ _ (exB_at B0.out) (by decide) K0.out).mono ?_)
  rintro e w1 ⟨hk1, v, rfl, hov, -⟩
  have K1 := Lib.hid (K0.out.trans hk1)
  rcases hov.parts with ⟨-, h0⟩ | ⟨g, cap, rfl, hg, hcell⟩
  · cases h0
  have hgl := (hov.lt g rfl).2
  have hcv : (convert 38 9 (.slice (some ⟨g, 0, none⟩) 1 cap)).run Tryd.prog w1 = .ok (.string ⟨#[97]⟩) w1 := hov.string
  have AD := Lib.hid (fun w' c (h : ByR w' w'.heap.size (some ⟨w1.heap.size, 0, none⟩) [97]) => (show Calls Tryd.prog 28 #[.slice (some ⟨w1.heap.size, 0, none⟩) 1 c] w' (fun e w'' => e = .returned (.int .u32 6422626) ∧ Kept w' w'') by
    have z := Adler_any [97] _ c w' h (by decide)
    rw [adler_example] at z
    exact z))
  have kc := Lib.run_convert_bytes_const (P := Tryd.prog) w1 38 5 #[.int .u8 97] 1 1 Tryd.underlying38 Tryd.underlying5
  clear hov hcell hk1
  rw [show ([97] : List UInt8).length = 1 from rfl]
  go_wp2_with fail
  (with_reducible refine (AD.out _ _ (byte_at w1 _)).mono ?_)
  rintro e w2 ⟨rfl, hk2⟩
  have K2 := Lib.hid ((K1.out.allocO _).trans hk2)
  clear hk2
  go_wp2_with fail
  go_ret
  exact ⟨rfl, K2.out⟩

end Go.Proofs.YtkobcgemllcfoaaDoor
