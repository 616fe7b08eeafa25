/-
  Several slices of numbers one behind another: slices.Grow, slices.Concat.
-/
import Derived.Test.YtpplboihlndfpaaInfCodes
import Derived.Lib.AppendZeros
import Derived.Deep.AppendLies
namespace Go.Proofs.Ytpplboihlndfpaa
open Go.RowKit Ix
set_option linter.unusedSimpArgs false
set_option linter.unusedVariables false

set_option maxRecDepth 100000 in
theorem Grow_nil (n : Nat) (h1 : 1 ≤ n) (hn : n ≤ 1048576) (w : World) :
    Calls Try.prog 39 #[.slice none 0 0, .int .i64 n] w fun e w' => ∃ g cap, e = .returned (.slice (some ⟨g, 0, none⟩) 0 cap) ∧ w'.ownsRow w.heap.size 3 1 (.slice (some ⟨g, 0, none⟩) 0 cap) 0 [] ∧ Kept w w' := by
  obtain ⟨i0, hi, hz0, hz1, hz2⟩ := info_parts info_int
  have hr := Lib.run_append_nil_zeros (P := Try.prog) w 55 3 55 3 i0 (.int .i64 0) .i64 .i64 Try.underlying55 Try.underlying3 hi hz0 n h1 (by omega) (by omega) (by rw [hz2]; omega)
  have c1 := grownCap_ge w n 0 3
  have c2 := grownCap_le_maxLen w n 0 3 (by unfold maxLen; omega)
  have hsz : (Builtin.zeroCells (Value.int .i64 0).cells n ++ Builtin.zeroCells (Value.int .i64 0).cells (grownCap w n 0 3 - n)).size = grownCap w n 0 3 * 1 := by
    rw [Array.size_append, size_zeroCells, size_zeroCells]
    simp [Value.cells]; omega
  have HOWN := Lib.hid (World.ownsRow_made (base := w.heap.size) (e := 3) (size := 1) w.drew _ _ (Nat.le_refl _) c2 hsz)
  have HK := Lib.hid (show Kept w (w.drew.alloc (.cells (Builtin.zeroCells (Value.int .i64 0).cells n ++ Builtin.zeroCells (Value.int .i64 0).cells (grownCap w n 0 3 - n)) 3)) from ((Kept.refl w).drew).allocO _)
  obtain ⟨cap, hcap⟩ : ∃ cap, cap = grownCap w n 0 3 := ⟨_, rfl⟩
  obtain ⟨W2, hW2⟩ : ∃ W2, W2 = w.drew.alloc (.cells (Builtin.zeroCells (Value.int .i64 0).cells n ++ Builtin.zeroCells (Value.int .i64 0).cells (grownCap w n 0 3 - n)) 3) := ⟨_, rfl⟩
  rw [← hW2] at hr HOWN HK
  rw [← hcap] at hr HOWN c1 c2
  clear hW2 hcap hsz
  have i0' : ¬ (n : Int) < 0 := by omega
  have i1' : (0 : Int) < (n : Int) := by omega
  go_enter Try.func39, Try.ntmps39
  go_wp2_with (at_builtin; refine Lib.wpList_append_run _ rfl _ _ _ _ rfl _ _ rfl rfl _ _ hr ?_)
  go_ret
  exact ⟨w.heap.size, cap, rfl, HOWN.out, HK.out⟩

def sumN (N : Nat → Nat) : Nat → Nat
  | 0 => 0
  | j + 1 => sumN N j + N j
def catV (N : Nat → Nat) (V : Nat → Int) : Nat → List Value
  | 0 => []
  | j + 1 => catV N V j ++ List.replicate (N j) (.int .i64 (V j))
theorem catV_len (N : Nat → Nat) (V : Nat → Int) : ∀ j, (catV N V j).length = sumN N j
  | 0 => rfl
  | j + 1 => by rw [catV, List.length_append, catV_len N V j, List.length_replicate]; rfl
theorem sumN_mono (N : Nat → Nat) (j : Nat) : ∀ d, sumN N j ≤ sumN N (j + d)
  | 0 => Nat.le_refl _
  | d + 1 => Nat.le_trans (sumN_mono N j d) (Nat.le_add_right _ _)
theorem sumN_le (N : Nat → Nat) {j m : Nat} (h : j ≤ m) : sumN N j ≤ sumN N m := by
  have := sumN_mono N j (m - j); rwa [show j + (m - j) = m by omega] at this

set_option maxRecDepth 100000 in
set_option maxHeartbeats 1000000 in
theorem Concat_any (m : Nat) (G N : Nat → Nat) (V : Nat → Int) (k : Nat) (w : World) (hm : m ≤ 1000)
    (hk : k < w.heap.size) (hc : ∀ i, i < m → w.cell? ⟨k, i, none⟩ = some (.slice (some ⟨G i, 0, none⟩) (N i) (N i))) (h1 : 1 ≤ sumN N m) (hN : ∀ i, i < m → 1 ≤ N i) (hs : sumN N m ≤ 1048576)
    (hA : ∀ i, i < m → Arr w (G i) (N i) (fun _ => V i) 3) :
    Calls Try.prog 32 #[.slice (some ⟨k, 0, none⟩) m m] w fun e w' => ∃ g cap, e = .returned (.slice (some ⟨g, 0, none⟩) (sumN N m) cap) ∧ w'.ownsRow w.heap.size 3 1 (.slice (some ⟨g, 0, none⟩) (sumN N m) cap) (sumN N m) (catV N V m) ∧ Kept w w' := by
  obtain ⟨i0, hi, hz0, hz1, hz2⟩ := info_parts info_int
  have HC := Lib.hid hc
  have HA := Lib.hid hA
  have HN := Lib.hid hN
  have GR := Lib.hid (Grow_nil (sumN N m) h1 hs w)
  clear hc hA hN
  go_enter Try.func32, Try.ntmps32
  go_wp2_with fail
  go_loopg [3, 11] (m + 1) (fun x s i wr => ∃ j : Nat, x = m + 1 - j ∧ j ≤ m ∧ s = .int .i64 (sumN N j) ∧ i = .int .i64 j ∧ w = wr)
  case atStart => exact ⟨0, rfl, Nat.zero_le _, rfl, rfl, rfl⟩
  case round =>
    obtain ⟨j, hx, hj, rfl, rfl, rfl⟩ := hrel
    by_cases hlt : j < m
    · have c := HC.out j hlt
      have hle : sumN N (j + 1) ≤ sumN N m := sumN_le N hlt
      have hst : sumN N (j + 1) = sumN N j + N j := rfl
      obtain ⟨s, hs2⟩ : ∃ s, s = sumN N j := ⟨_, rfl⟩
      obtain ⟨nj, hnj⟩ : ∃ nj, nj = N j := ⟨_, rfl⟩
      have HS := Lib.hid hst
      rw [← hs2] at hst HS ⊢
      rw [← hnj] at c hst HS
      clear hs2 hnj
      have i1 : ¬ (s : Int) + (nj : Int) < 0 := by omega
      have i2 : wrap64 ((s : Int) + (nj : Int)) = (s : Int) + (nj : Int) := by unfold wrap64; omega
      go_wp2_with fail
      go_roundg (m + 1 - (j + 1))
      case measure => omega
      case rel => exact ⟨j + 1, rfl, by omega, by rw [HS.out]; go_num, by go_num, rfl⟩
    · obtain rfl : j = m := by omega
      go_wp2_with fail
      (with_reducible refine GR.out.mono ?_)
      rintro e w1 ⟨g1, cap1, rfl, ho1, hk1⟩
      have HO1 := Lib.hid ho1
      have HK1 := Lib.hid hk1
      clear ho1 hk1
      go_wp2_with fail
      go_loopg [6, 27] (j + 1) (fun x s i wr => ∃ (q g cap : Nat), x = j + 1 - q ∧ q ≤ j ∧ s = .slice (some ⟨g, 0, none⟩) (sumN N q) cap ∧ i = .int .i64 q ∧ wr.ownsRow w.heap.size 3 1 (.slice (some ⟨g, 0, none⟩) (sumN N q) cap) (sumN N q) (catV N V q) ∧ Kept w wr)
      case atStart => exact ⟨0, g1, cap1, rfl, Nat.zero_le _, rfl, rfl, HO1.out, HK1.out⟩
      case round =>
        obtain ⟨q, g, cap, hx2, hq, rfl, rfl, ho, hkk⟩ := hrel
        have HO := Lib.hid ho
        have HK := Lib.hid hkk
        clear ho hkk
        by_cases hlt2 : q < j
        · have c := HK.out.cells.1 k q hk
          rw [HC.out q hlt2] at c
          have hle : sumN N (q + 1) ≤ sumN N j := sumN_le N hlt2
          have hst : sumN N (q + 1) = sumN N q + N q := rfl
          have hn1 := HN.out q hlt2
          have HAQ := Lib.hid (HA.out q hlt2)
          have HCT := Lib.hid (show catV N V (q + 1) = catV N V q ++ List.replicate (N q) (.int .i64 (V q)) from rfl)
          have HS := Lib.hid hst
          have hwl := Below.size HK.out
          go_wp2_with (at_builtin; refine wpList_append_lies _ rfl _ _ 55 rfl w.heap.size 3 i0 (.int .i64 0) 1 8 Try.underlying55 hi hz0 hz1 hz2 rfl (by decide) (.slice (some ⟨g, 0, none⟩) (sumN N q) cap) (sumN N q) (catV N V q) rfl HO.out ⟨G q, 0, none⟩ (N q) (N q) (List.replicate (N q) (.int .i64 (V q))) rfl (by simp) (by
            intro i u hiu
            rw [Addr.add_lit, Nat.zero_add]
            have h0 := (List.getElem?_eq_some_iff.1 hiu).1
            rw [List.length_replicate] at h0
            rw [← hiu, List.getElem?_replicate, if_pos h0, HK.out.cells.1 _ _ HAQ.out.lt]
            exact HAQ.out.cell i h0) (by intro u hu; rw [List.eq_of_mem_replicate hu]; rfl) (by omega) (by unfold maxLen; omega) (by omega) hwl _ rfl ?_; intro g6 cap6 w6 ho6 hg6 hat6 hlt6)
          have HK6 := Lib.hid (show Kept w w6 from HK.out.grown hg6 hwl (fun x hx => (World.ownsRow.lt HO.out x hx).1))
          have HO6 := Lib.hid ho6
          clear ho6 hg6 hat6 hlt6
          go_roundg (j + 1 - (q + 1))
          case measure => omega
          case rel => exact ⟨q + 1, g6, cap6, rfl, by omega, by rw [HS.out], by go_num, by rw [HS.out, HCT.out]; exact HO6.out, HK6.out⟩
        · obtain rfl : q = j := by omega
          go_wp2_with fail
          go_ret
          exact ⟨g, cap, rfl, HO.out, HK.out⟩

end Go.Proofs.Ytpplboihlndfpaa
