/-
  The reference's sums and products, the first error kept: take, two, plus.
-/
import Derived.Test.YtbckjejflbfjlaaFixRef
import Derived.Test.YtbckjejflbfjlaaGeomMul
namespace Go.Proofs.Ytbckjejflbfjlaa
open Go.RowKit

theorem set_same {w : World} {b o : Nat} {v : Value} (h : w.cell? ⟨b, o, none⟩ = some v) : w.setCell ⟨b, o, none⟩ v = w := by
  unfold World.setCell
  have e : (w.heap.modify b fun
      | .cells c elem frozen => .cells (if (none : Option Nat).isSome then c else c.setIfInBounds o v) elem frozen
      | x => x) = w.heap := by
    apply Array.ext
    · simp
    · intro i hi hi'
      rw [Array.getElem_modify]
      split
      · rename_i hb
        subst hb
        unfold World.cell? at h
        rw [Array.getElem?_eq_getElem hi'] at h
        cases hx : w.heap[b] with
        | cells c t f =>
          rw [hx] at h
          simp at h
          simp only [Option.isSome_none, Bool.false_eq_true, if_false]
          congr 1
          apply Array.ext
          · simp
          · intro j hj hj'
            rw [Array.getElem_setIfInBounds]
            split
            · rename_i e; subst e
              rw [Array.getElem?_eq_getElem hj'] at h
              exact (Option.some.inj h).symm
            · rfl
        | _ => rfl
      · rfl
  exact congrArg (fun h => ({ w with heap := h } : World)) e
theorem set_set (w : World) (b o : Nat) (u v : Value) : (w.setCell ⟨b, o, none⟩ u).setCell ⟨b, o, none⟩ v = w.setCell ⟨b, o, none⟩ v := by
  unfold World.setCell
  congr 1
  apply Array.ext
  · simp
  · intro i hi hi'
    rw [Array.getElem_modify, Array.getElem_modify, Array.getElem_modify]
    by_cases hb : b = i
    · subst hb
      simp only [if_true]
      cases hx : w.heap[b]'(by simpa using hi') with
      | cells c t f => simp
      | _ => rfl
    · simp [hb]

namespace Gm
open Fx
def twoW (a b c d : Int) : Int := addV (mulV a b) (mulV c d)
theorem twoW_ok {a b c d : Int} (h : twoE a b c d = 0) : twoW a b c d = twoV a b c d := by unfold twoV; rw [if_pos h]; rfl
theorem zif_add (a b : Int) : zif (addE a b) (addV a b) = addV a b := by
  by_cases h : addE a b = 0
  · exact zif_ok h _
  · rw [zif_no h, addV_err h]
theorem zif_mul (a b : Int) : zif (mulE a b) (mulV a b) = mulV a b := by
  by_cases h : mulE a b = 0
  · exact zif_ok h _
  · rw [zif_no h, mulV_err h]
theorem zif_sub (a b : Int) : zif (subE a b) (subV a b) = subV a b := by
  by_cases h : subE a b = 0
  · exact zif_ok h _
  · rw [zif_no h, subV_err h]
theorem zif_div (a b : Int) : zif (divE a b) (divV a b) = divV a b := by
  by_cases h : divE a b = 0
  · exact zif_ok h _
  · rw [zif_no h, divV_err h]
end Gm

set_option maxHeartbeats 1000000 in
theorem take_any (b : Nat) (s f e : Int) (w : World) (hc : w.cell? ⟨b, 0, none⟩ = some (.int .i64 s)) (hf : w.frozen? ⟨b, 0, none⟩ = false) :
    Calls Try.prog 40 #[.pointer (some ⟨b, 0, none⟩), .int .i64 f, .int .i64 e] w fun r w' => r = .returned (.int .i64 (Gm.zif e f)) ∧ w.setCell ⟨b, 0, none⟩ (.int .i64 (Gm.fst s e)) = w' := by
  have HC := Lib.hid hc
  by_cases hs : s = 0
  · have HS := Lib.hid (show Gm.fst s e = e by rw [hs, Gm.fst_zero])
    have ts : (s == 0) = true := by simpa using hs
    clear hs
    by_cases he : e = 0
    · have HE := Lib.hid (Gm.zif_ok he f)
      have t0 := ne_no he
      clear he
      go_enter Try.func40, Try.ntmps40
      go_wp2_with fail
      go_ret
      exact ⟨ret_int HE.out.symm, by rw [HS.out]⟩
    · have HE := Lib.hid (Gm.zif_no he f)
      have t0 := ne_yes he
      clear he
      go_enter Try.func40, Try.ntmps40
      go_wp2_with fail
      go_ret
      exact ⟨ret_int HE.out.symm, by rw [HS.out]⟩
  · have HS := Lib.hid (Gm.fst_ne hs e)
    have ts : (s == 0) = false := by simpa using hs
    clear hs
    by_cases he : e = 0
    · have HE := Lib.hid (Gm.zif_ok he f)
      have t0 := ne_no he
      clear he
      go_enter Try.func40, Try.ntmps40
      go_wp2_with fail
      go_ret
      exact ⟨ret_int HE.out.symm, by rw [HS.out]; exact set_same HC.out⟩
    · have HE := Lib.hid (Gm.zif_no he f)
      have t0 := ne_yes he
      clear he
      go_enter Try.func40, Try.ntmps40
      go_wp2_with fail
      go_ret
      exact ⟨ret_int HE.out.symm, by rw [HS.out]; exact set_same HC.out⟩

theorem cell_set {w : World} {b : Nat} {u : Value} (h : w.cell? ⟨b, 0, none⟩ = some u) (v : Value) : (w.setCell ⟨b, 0, none⟩ v).cell? ⟨b, 0, none⟩ = some v := World.cell?_setCell_same _ _ _ h
theorem frozen_set (w : World) (b : Nat) (v : Value) : (w.setCell ⟨b, 0, none⟩ v).frozen? ⟨b, 0, none⟩ = w.frozen? ⟨b, 0, none⟩ := by simp [go_sem]

set_option maxHeartbeats 1000000 in
theorem two_any (k : Nat) (s a b c d : Int) (w : World) (hc : w.cell? ⟨k, 0, none⟩ = some (.int .i64 s)) (hf : w.frozen? ⟨k, 0, none⟩ = false) :
    Calls Try.prog 33 #[.pointer (some ⟨k, 0, none⟩), .int .i64 a, .int .i64 b, .int .i64 c, .int .i64 d] w fun r w' => r = .returned (.int .i64 (Gm.twoW a b c d)) ∧ w.setCell ⟨k, 0, none⟩ (.int .i64 (Gm.fst s (Gm.twoE a b c d))) = w' := by
  have HC := Lib.hid hc
  have HF := Lib.hid hf
  have HE := Lib.hid (show Gm.fst (Gm.fst (Gm.fst s (Fx.mulE a b)) (Fx.mulE c d)) (Fx.addE (Fx.mulV a b) (Fx.mulV c d)) = Gm.fst s (Gm.twoE a b c d) by unfold Gm.twoE; rw [Gm.fst_fst, Gm.fst_fst, Gm.fst_fst])
  have z1 := Gm.zif_mul a b
  have z2 := Gm.zif_mul c d
  have z3 := Gm.zif_add (Fx.mulV a b) (Fx.mulV c d)
  clear hc hf
  go_enter Try.func33, Try.ntmps33
  go_wp2_with fail
  refine (RMul_any a b _).mono ?_
  rintro e w1 ⟨rfl, rfl⟩
  go_wp2_with fail
  refine (take_any k s _ _ _ HC.out HF.out).mono ?_
  rintro e w1 ⟨rfl, rfl⟩
  go_wp2_with fail
  refine (RMul_any c d _).mono ?_
  rintro e w1 ⟨rfl, rfl⟩
  go_wp2_with fail
  refine (take_any k _ _ _ _ (cell_set HC.out _) ((frozen_set _ _ _).trans HF.out)).mono ?_
  rintro e w1 ⟨rfl, rfl⟩
  rw [set_set]
  go_wp2_with fail
  refine (RAdd_any _ _ _).mono ?_
  rintro e w1 ⟨rfl, rfl⟩
  go_wp2_with fail
  refine (take_any k _ _ _ _ (cell_set HC.out _) ((frozen_set _ _ _).trans HF.out)).mono ?_
  rintro e w1 ⟨rfl, rfl⟩
  rw [set_set]
  go_wp2_with fail
  go_ret
  exact ⟨rfl, by rw [HE.out]⟩

set_option maxHeartbeats 1000000 in
theorem plus_any (k : Nat) (s a b : Int) (w : World) (hc : w.cell? ⟨k, 0, none⟩ = some (.int .i64 s)) (hf : w.frozen? ⟨k, 0, none⟩ = false) :
    Calls Try.prog 34 #[.pointer (some ⟨k, 0, none⟩), .int .i64 a, .int .i64 b] w fun r w' => r = .returned (.int .i64 (Fx.addV a b)) ∧ w.setCell ⟨k, 0, none⟩ (.int .i64 (Gm.fst s (Fx.addE a b))) = w' := by
  have HC := Lib.hid hc
  have HF := Lib.hid hf
  have z3 := Gm.zif_add a b
  clear hc hf
  go_enter Try.func34, Try.ntmps34
  go_wp2_with fail
  refine (RAdd_any _ _ _).mono ?_
  rintro e w1 ⟨rfl, rfl⟩
  go_wp2_with fail
  refine (take_any k _ _ _ _ HC.out HF.out).mono ?_
  rintro e w1 ⟨rfl, rfl⟩
  go_wp2_with fail
  go_ret
  exact ⟨rfl, rfl⟩

end Go.Proofs.Ytbckjejflbfjlaa
