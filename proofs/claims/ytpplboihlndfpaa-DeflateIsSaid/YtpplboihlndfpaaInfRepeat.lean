/-
  A number again and again, and several of those one behind another: slices.Repeat, slices.Grow, slices.Concat.
-/
import Derived.Test.YtpplboihlndfpaaInfCodes
import Derived.Test.YtpplboihlndfpaaShelf
import Derived.Laws.CopyOwn
import Derived.Lib.AppendZeros
import Derived.Deep.AppendLies
import Derived.Deep.RegionLaw
namespace Go.Proofs.Ytpplboihlndfpaa
open Go.RowKit Ix
set_option linter.unusedSimpArgs false
set_option linter.unusedVariables false

theorem Mul_one (n : Nat) (hn : n < 18446744073709551616) (w : World) :
    Calls Try.prog 40 #[.int .u64 1, .int .u64 n] w fun e w' => e = .returned (.tuple #[.int .u64 0, .int .u64 n]) ∧ w = w' :=
  (Try.bits_Mul 1 n (by decide) hn w).mono fun e w' ⟨he, hw⟩ => ⟨by
    rw [he, Nat.one_mul, Nat.div_eq_of_lt hn, Nat.mod_eq_of_lt hn]; rfl, hw.symm⟩

/-- m of n numbers are there. -/
def repTo (v : Int) (m : Nat) (i : Nat) : Int := if i < m then v else 0
theorem rep_splice (v : Int) (n m k : Nat) (h : m + k ≤ n) : splice (numCells n (repTo v m)).toList m (List.replicate k (Value.int .i64 v)) = (numCells n (repTo v (m + k))).toList := by
  apply List.ext_getElem?
  intro i
  unfold splice numCells
  simp only [List.length_replicate]
  by_cases h1 : i < m
  · rw [List.getElem?_append_left (by simp; omega), List.getElem?_take, if_pos h1]
    simp [show i < n by omega, repTo, h1, show i < m + k by omega]
  · by_cases h2 : i < m + k
    · rw [List.getElem?_append_right (by simp; omega), List.getElem?_append_left (by simp; omega)]
      simp [List.getElem?_replicate, show i < n by omega, repTo, h2]; omega
    · rw [List.getElem?_append_right (by simp; omega), List.getElem?_append_right (by simp; omega)]
      simp only [List.length_take, List.length_replicate, List.getElem?_drop]
      simp only [List.length_map, List.length_range]
      rw [show m + k + (i - min m n - k) = i by omega]
      by_cases h3 : i < n
      · simp [h3, repTo, h1, h2]
      · simp [h3]

set_option maxRecDepth 100000 in
set_option maxHeartbeats 400000 in
theorem Repeat_one (v : Int) (n k : Nat) (w : World) (hk : w.cell? ⟨k, 0, none⟩ = some (.int .i64 v)) (hkl : k < w.heap.size) (h1 : 1 ≤ n) (hn : n ≤ 1048576) :
    Calls Try.prog 33 #[.slice (some ⟨k, 0, none⟩) 1 1, .int .i64 n] w fun e w' => ∃ g, e = .returned (.slice (some ⟨g, 0, none⟩) n n) ∧ w.heap.size ≤ g ∧ Arr w' g n (fun _ => v) 3 ∧ Kept w w' := by
  have BM := Lib.hid (Mul_one n (by omega))
  have HK := Lib.hid hk
  have i0 : ¬ (n : Int) < 0 := by omega
  have i1 : ¬ (9223372036854775807 : Int) < (n : Int) := by omega
  obtain ⟨i0', hi, hz0, hz1, hz2⟩ := info_parts info_int
  clear hk
  go_enter Try.func33, Try.ntmps33
  go_upto_region 7 with (first
    | (go_at_call 40; (with_reducible refine (BM.out _).mono ?_); rintro e w1 ⟨rfl, rfl⟩)
    | (at_make; refine wpList_make_full _ rfl _ _ 55 rfl w.heap.size 3 i0' (.int .i64 0) 1 Try.underlying55 hi hz0 hz1 .i64 .i64 _ _ n rfl rfl rfl rfl (by rw [hz2]; omega) (by unfold maxLen; omega) (Nat.le_refl _) ?_; intro w4 hown hgrow; have G4 := Lib.hid (show Arr w4 w.heap.size n (repTo v 0) 3 from (arr_made hown).fn _ fun i hi => rfl); have K4 := Lib.hid (show Kept w w4 from Below.grown (Kept.refl w) hgrow (Nat.le_refl _) (fun k h => by cases h)); clear hown hgrow))
  go_upto_region 8 with (refine wpList_copy_splice rfl _ _ 55 55 rfl 3 Try.underlying55 (by kernel_rfl) (some ⟨w.heap.size, 0, none⟩) (some ⟨k, 0, none⟩) n n 1 1 rfl rfl w.heap.size 0 (numCells n (repTo v 0)).toList 3 (by have z := G4.out; unfold Arr Blk at z; simpa using z) (List.replicate 1 (Value.int .i64 v)) (by show 1 = min 1 n; omega) (fun _ => ⟨rfl, ⟨k, 0, none⟩, rfl, by
          intro j u hj
          rw [Addr.add_lit, Nat.zero_add]
          have hj0 : j = 0 := by have := (List.getElem?_eq_some_iff.1 hj).1; simp at this; omega
          subst hj0
          rw [← hj, K4.out.cells.1 _ _ hkl, HK.out]; rfl⟩) (by unfold numCells; simp; omega) (by intro u hu; rw [List.eq_of_mem_replicate hu]; rfl) w.heap.size w K4.out (Nat.le_refl _) ?_; intro w5 hg5 hb5; have G5 := Lib.hid (show Arr w5 w.heap.size n (repTo v 1) 3 by have z := hg5.out; rw [rep_splice v n 0 1 (by omega)] at z; simpa [Arr, Blk] using z); have K5 := Lib.hid (show Kept w w5 from hb5); clear hg5 hb5)
  go_loopg [8] (n - 1) (fun m x wr => ∃ j : Nat, m = n - j ∧ 1 ≤ j ∧ j ≤ n ∧ x = .int .i64 j ∧ Arr wr w.heap.size n (repTo v j) 3 ∧ Kept w wr)
  case atStart => exact ⟨1, rfl, Nat.le_refl _, h1, rfl, G5.out, K5.out⟩
  case round =>
    obtain ⟨j, hm, hj1, hjn, rfl, ha, hk⟩ := hrel
    have HA := Lib.hid ha
    have HKK := Lib.hid hk
    clear ha hk
    by_cases hlt : j < n
    · have j1 : (j : Int) < (n : Int) := by omega
      have nj : ¬ n = j := by omega
      obtain ⟨q, hq⟩ : ∃ q, q = min j (n - j) := ⟨_, rfl⟩
      obtain ⟨cs, hcs⟩ : ∃ cs, cs = List.replicate q (Value.int .i64 v) := ⟨_, rfl⟩
      have hcl : cs.length = q := by rw [hcs, List.length_replicate]
      have q1 : 1 ≤ q := by omega
      have q2 : j + q ≤ n := by omega
      have HQ := Lib.hid hq
      have HCS := Lib.hid hcs
      clear hq hcs
      have HAD := Lib.hid (HA.out.kept (Kept.refl wr).drew)
      have HW := Lib.hid (show Value.int .i64 (IntKind.i64.wrap ((j : Int) + (q : Int))) = .int .i64 ((j + q : Nat) : Int) by rw [IntWalk.i64_in ((j : Int) + (q : Int)) (by omega)]; rfl)
      go_wp2_with fail
      go_region_law ((refine step_copy_splice (by rfl) _ _ 55 55 (by rfl) 3 Try.underlying55 (by kernel_rfl) (some ⟨w.heap.size, j, none⟩) (some ⟨w.heap.size, 0, none⟩) (n - j) (n - j) j n (by simp [Act.eval, Act.put]) (by simp [Act.eval, Act.put]) w.heap.size j (numCells n (repTo v j)).toList 3 (by have z := HAD.out; unfold Arr Blk at z; simpa using z) cs (by rw [hcl]; exact HQ.out) (fun _ => ⟨rfl, ⟨w.heap.size, 0, none⟩, rfl, by
          intro i u hi
          rw [Addr.add_lit, Nat.zero_add]
          have hi0 := (List.getElem?_eq_some_iff.1 hi).1
          rw [hcl] at hi0
          have c := HAD.out.cell i (by omega)
          unfold repTo at c
          rw [if_pos (by have := HQ.out; omega)] at c
          rw [← hi, c, HCS.out, List.getElem?_replicate, if_pos hi0]⟩) (by rw [hcl, show (numCells n (repTo v j)).toList.length = n by unfold numCells; simp]; omega) (by intro u hu; rw [HCS.out] at hu; rw [List.eq_of_mem_replicate hu]; rfl) w.heap.size w HKK.out.drew (Nat.le_refl _) ?_; intro w6 hg6 hb6))
      have G6 := Lib.hid (show Arr w6 w.heap.size n (repTo v (j + q)) 3 by have z := hg6.out; rw [HCS.out, rep_splice v n j q q2] at z; simpa [Arr, Blk] using z)
      have K6 := Lib.hid (show Kept w w6 from hb6)
      have q3 : wrap64 ((j : Int) + (q : Int)) = ((j + q : Nat) : Int) := by unfold wrap64; omega
      clear hg6 hb6
      go_wp2_with fail
      go_simp
      go_roundg (n - (j + q))
      case measure => exact Nat.sub_lt_sub_left hlt (Nat.lt_add_of_pos_right q1)
      case rel => exact ⟨j + q, rfl, Nat.le_add_right_of_le hj1, q2, HW.out, G6.out, K6.out⟩
    · obtain rfl : j = n := by omega
      go_wp2_with fail
      go_ret
      exact ⟨w.heap.size, rfl, Nat.le_refl _, HA.out.fn _ fun i hi => if_pos hi, HKK.out⟩

end Go.Proofs.Ytpplboihlndfpaa
