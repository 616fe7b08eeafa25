/-
  The document's examples of package deflate.
-/
import Derived.Test.YtpplboihlndfpaaDefZlib
import Derived.Lib.SlBytesConst
namespace Go.Proofs.Ytpplboihlndfpaa
open Go.RowKit Ix Dx
set_option linter.unusedSimpArgs false
set_option linter.unusedVariables false

theorem Out.stringD {w : World} {B : Nat} {v : Value} {l : List UInt8} (h : Out w B v l) : (convert 22 9 v).run Try.prog w = .ok (.string ⟨l.toArray⟩) w := by
  rcases h.parts with ⟨rfl, rfl⟩ | ⟨g, cap, rfl, hg, hc⟩
  · exact run_convert_bytes_nil (P := Try.prog) w 22 5 Try.underlying22 Try.underlying5 0 0 _ Try.underlying9
  · refine run_convert_bytes_back (P := Try.prog) w 22 9 5 ⟨g, 0, none⟩ cap l Try.underlying22 Try.underlying5 Try.underlying9 fun j hj => ?_
    rw [Addr.add_lit, Nat.zero_add]
    exact hc j hj
theorem byte_atD (w : World) (fr : Nat × Nat) : ByR (w.alloc (.cells #[.int .u8 97] 5 fr)) (w.alloc (.cells #[.int .u8 97] 5 fr)).heap.size (some ⟨w.heap.size, 0, none⟩) [97] := by
  intro i hi
  refine ⟨w.heap.size, 0, rfl, by simp, ?_⟩
  rw [Nat.zero_add, World.cell?_alloc_mark]
  have hi : i < 1 := hi
  obtain rfl : i = 0 := by omega
  rfl
theorem bytes_atD (w : World) (fr : Nat × Nat) : ByR (w.alloc (.cells #[.int .u8 97, .int .u8 97, .int .u8 97, .int .u8 97] 5 fr)) (w.alloc (.cells #[.int .u8 97, .int .u8 97, .int .u8 97, .int .u8 97] 5 fr)).heap.size (some ⟨w.heap.size, 0, none⟩) [97, 97, 97, 97] := by
  intro i hi
  refine ⟨w.heap.size, 0, rfl, by simp, ?_⟩
  rw [Nat.zero_add, World.cell?_alloc_mark]
  have hi : i < 4 := hi
  rcases (show i = 0 ∨ i = 1 ∨ i = 2 ∨ i = 3 by omega) with rfl | rfl | rfl | rfl <;> rfl

set_option maxRecDepth 100000 in
set_option maxHeartbeats 1000000 in
theorem awake7_any (w : World) : Calls Try.prog 8 #[] w fun e w' => e = .returned (.bool true) ∧ Kept w w' := by
  have kc := Lib.run_convert_bytes_const (P := Try.prog) w 22 5 #[.int .u8 97, .int .u8 97, .int .u8 97, .int .u8 97] 4 4 Try.underlying22 Try.underlying5
  have TK := Lib.hid (fun w' (h : ByR w' w'.heap.size (some ⟨w.heap.size, 0, none⟩) [97, 97, 97, 97]) => (show Calls Try.prog 15 #[.slice (some ⟨w.heap.size, 0, none⟩) 4 4] w' (fun e w'' => ∃ v, e = .returned v ∧ Toks w'' w'.heap.size v [⟨97, 0, 0⟩, ⟨0, 3, 1⟩] ∧ Kept w' w'') by
    have z := Tokens_any [97, 97, 97, 97] _ 4 w' h (by decide) (by decide)
    rw [tokens_example] at z
    exact z))
  go_enter Try.func8, Try.ntmps8
  go_wp2_with fail
  (with_reducible refine (TK.out _ (bytes_atD w _)).mono ?_)
  rintro e w1 ⟨v, rfl, ht, hk1⟩
  have K1 := Lib.hid (((Kept.refl w).allocO _).trans hk1)
  obtain ⟨q, cap, rfl, hqc, hqn⟩ := ht.shape
  obtain ⟨kb, o, hp, hkb, -, b1, b2⟩ := ht.tokR 1 (by decide)
  subst hp
  have B1 := Lib.hid b1
  have B2 := Lib.hid b2
  have kc1 := Lib.run_convert_bytes_const (P := Try.prog) w1 22 5 #[.int .u8 97] 1 1 Try.underlying22 Try.underlying5
  have ZA := Lib.hid (fun w' (h : ByR w' w'.heap.size (some ⟨w1.heap.size, 0, none⟩) [97]) => (show Calls Try.prog 11 #[.slice (some ⟨w1.heap.size, 0, none⟩) 1 1, .int .i64 1] w' (DRawA w' (.ok [120, 1, 75, 4, 0, 0, 98, 0, 98])) by
    have z := defZlib_any [97] 1 _ 1 w' h (by decide) (fun e => by cases e) (by decide) (by decide)
    rw [Dx.zlib_example] at z
    exact z))
  have hkl : kb < w1.heap.size := hkb
  clear ht hk1 kc b1 b2
  rw [show ([⟨97, 0, 0⟩, ⟨0, 3, 1⟩] : List Tok).length = 2 from rfl] at hqc ⊢
  go_wp2_with fail
  (with_reducible refine (ZA.out _ (byte_atD w1 _)).mono ?_)
  rintro e w2 ⟨hk2, v2, rfl, ho2⟩
  have K12 := Lib.hid (((Kept.refl w1).allocO _).trans hk2)
  have K2 := Lib.hid (K1.out.trans K12.out)
  have b1 := B1.out
  have b2 := B2.out
  rw [← K12.out.cells.1 _ _ hkl] at b1 b2
  have hcv := ho2.stringD
  have hcv2 := (Out.lit' w2 (B0 := 0) (Nat.zero_le _) [120, 1, 75, 4, 0, 0, 98, 0, 98] #[.int .u8 120, .int .u8 1, .int .u8 75, .int .u8 4, .int .u8 0, .int .u8 0, .int .u8 98, .int .u8 0, .int .u8 98] rfl 9 rfl (by decide)).stringD
  clear hk2 ho2 kc1
  go_wp2_with fail
  go_ret
  exact ⟨rfl, K2.out.allocO _⟩

end Go.Proofs.Ytpplboihlndfpaa
