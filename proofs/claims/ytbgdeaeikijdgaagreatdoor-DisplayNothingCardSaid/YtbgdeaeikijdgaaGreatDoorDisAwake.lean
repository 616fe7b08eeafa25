/-
  The document's example of layer 12: what the laws ask first is so.
-/
import Derived.Test.YtbgdeaeikijdgaaGreatDoorDisN
import Derived.Test.YtbgdeaeikijdgaaGreatDoorDisSame
import Derived.Lib.SlBytesConst
namespace Go.Proofs.YtbgdeaeikijdgaaGreatDoor
open Go.RowKit Cx Px
set_option linter.unusedSimpArgs false
set_option linter.unusedVariables false

set_option maxRecDepth 100000 in
set_option maxHeartbeats 8000000 in
theorem awake12_any (w : World) (hm : HasMax w) : Calls Tryz.prog 7 #[] w fun e w' => e = .returned (.bool true) ∧ Kept w w' := by
  have kc := Lib.run_convert_bytes_const (P := Tryz.prog) w 46 5 #[.int .u8 49, .int .u8 32, .int .u8 48, .int .u8 32, .int .u8 48, .int .u8 32, .int .u8 114, .int .u8 103, .int .u8 32, .int .u8 48, .int .u8 32, .int .u8 48, .int .u8 32, .int .u8 49, .int .u8 48, .int .u8 32, .int .u8 49, .int .u8 48, .int .u8 32, .int .u8 114, .int .u8 101, .int .u8 32, .int .u8 102] 23 23 Tryz.underlying46 Tryz.underlying5
  have KA := Lib.hid ((Kept.refl w).allocO (.cells #[.int .u8 49, .int .u8 32, .int .u8 48, .int .u8 32, .int .u8 48, .int .u8 32, .int .u8 114, .int .u8 103, .int .u8 32, .int .u8 48, .int .u8 32, .int .u8 48, .int .u8 32, .int .u8 49, .int .u8 48, .int .u8 32, .int .u8 49, .int .u8 48, .int .u8 32, .int .u8 114, .int .u8 101, .int .u8 32, .int .u8 102] 5 (23, 23 + 1)))
  have RU := Lib.hid (fun W (k : Kept (w.alloc (.cells #[.int .u8 49, .int .u8 32, .int .u8 48, .int .u8 32, .int .u8 48, .int .u8 32, .int .u8 114, .int .u8 103, .int .u8 32, .int .u8 48, .int .u8 32, .int .u8 48, .int .u8 32, .int .u8 49, .int .u8 48, .int .u8 32, .int .u8 49, .int .u8 48, .int .u8 32, .int .u8 114, .int .u8 101, .int .u8 32, .int .u8 102] 5 (23, 23 + 1))) W) => Run_any (.slice (some ⟨w.heap.size, 0, none⟩) 23 23) aw12T W (by decide) (hm.kept (KA.out.trans k)) (fun W' k' => conv_const (w := w) (l := aw12T.data.toList) (fr := (23, 23 + 1)) (by decide) (k.trans k') 23) aw12O aw12_parse aw12_basic (by decide) _ aw12_draws)
  clear hm
  go_enter Tryz.func7, Tryz.ntmps7
  go_wp2_with fail
  (with_reducible refine (RU.out _ (Kept.refl _)).mono ?_)
  rintro e w1 ⟨I, p, c, rfl, hk1, hI, hR⟩
  have K1 := Lib.hid (KA.out.trans hk1)
  obtain ⟨i, hi, h1, h5, hc⟩ := aw12_out
  rw [hi] at hI
  obtain ⟨d, rfl⟩ := one_of hI
  obtain ⟨k, off, hp, -, hbl, yy⟩ := hR.at' 0 (by simp)
  subst hp
  have y0 : w1.cell? ⟨k, off, none⟩ = some (.int .i64 i.kind) := by have := yy 0 _ rfl; simpa using this
  have y7 : w1.cell? ⟨k, off + 7, none⟩ = some (.slice d.p i.path.length d.c) := by have := yy 7 _ rfl; simpa using this
  have y8 : w1.cell? ⟨k, off + 8, none⟩ = some (.int .i64 i.c.r) := by have := yy 8 _ rfl; simpa using this
  rw [h1] at y0
  rw [h5] at y7
  rw [hc] at y8
  have SA := Lib.hid (fun W (k' : Kept w1 W) => show Calls Tryz.prog 9 #[.slice (some ⟨k, off, none⟩) 1 c, .slice (some ⟨k, off, none⟩) 1 c] W (fun e w' => e = .returned (.bool true) ∧ Kept W w') by
    have := SameD_any _ _ [(i, d)] [(i, d)] (some ⟨k, off, none⟩) (some ⟨k, off, none⟩) c c W (hR.kept k') (hR.kept k') ⟨by simp, fun r hr => by rw [List.mem_singleton.1 hr]; show i.path.length ≤ _; omega⟩ ⟨by simp, fun r hr => by rw [List.mem_singleton.1 hr]; show i.path.length ≤ _; omega⟩
    rw [sameIts_self] at this
    simp only [List.length_singleton] at this
    exact this)
  simp only [List.length_singleton]
  clear hk1 hI hR hi h1 h5 hc yy RU kc
  go_wp2_with fail
  (with_reducible refine (SA.out _ (Kept.refl _)).mono ?_)
  rintro e w2 ⟨rfl, hk2⟩
  have K2 := Lib.hid (K1.out.trans hk2)
  clear hk2
  go_wp2_with fail
  go_ret
  exact ⟨rfl, K2.out⟩

end Go.Proofs.YtbgdeaeikijdgaaGreatDoor
