/-
  slices.EqualFunc over objects by Same; sameEntries: each under what Same says of all that stands in the first list.
-/
import Derived.Test.YtdfgbdonnpbfcaaCosSame
import Derived.Test.YtdfgbdonnpbfcaaCosMath
namespace Go.Proofs.Ytdfgbdonnpbfcaa
open Go.RowKit Cx

/-- What Same says of an object, held against whatever. -/
def SameC (P : Nat → Prop) (x : Ob) : Prop :=
  ∀ (y : Ob) (hx hy : Hd) (w : World), Lies (Cel P w) x hx → Lies (Cel P w) y hy → y.wt ≤ 4294967296 → Calls Try.prog 12 #[objV x hx, objV y hy] w fun e w' => e = .returned (.bool (x.same y)) ∧ Kept w w'

set_option maxRecDepth 100000 in
set_option maxHeartbeats 4000000 in
theorem EqualFunc_same (P : Nat → Prop) (l1 l2 : List Ob) (p1 p2 : Option Addr) (c1 c2 : Nat) (w : World) (h1 : Lies (Cel P w) (arrO l1) ⟨p1, c1, none, 0⟩) (h2 : Lies (Cel P w) (arrO l2) ⟨p2, c2, none, 0⟩) (IH : ∀ x ∈ l1, SameC P x) (hw : ∀ y ∈ l2, y.wt ≤ 4294967296) :
    Calls Try.prog 21 #[.slice p1 l1.length c1, .slice p2 l2.length c2, .func (.func 12) #[] #[]] w fun e w' => e = .returned (.bool (sameL l1 l2)) ∧ Kept w w' := by
  have H1 := Lib.hid h1
  have H2 := Lib.hid h2
  have HI := Lib.hid IH
  have HW := Lib.hid hw
  have hb1 := h1.bounds.1
  have hb2 := h2.bounds.1
  simp only [arrO, Ob.l] at hb1 hb2
  unfold maxLen at hb1 hb2
  clear h1 h2 IH hw
  by_cases hlen : l1.length = l2.length
  · have hq : ((l1.length : Int) != (l2.length : Int)) = false := by rw [hlen]; exact bne_self_eq_false _
    have HLN := Lib.hid hlen
    clear hlen
    go_enter Try.func21, Try.ntmps21
    go_wp2_with fail
    go_loopg [17] (l1.length) (fun m i wr => ∃ (j : Nat), m = l1.length - j ∧ j ≤ l1.length ∧ i = .int .i64 j ∧ Kept w wr ∧ Hid (sameL l1 l2 = sameL (l1.drop j) (l2.drop j)))
    case atStart => exact ⟨0, by omega, Nat.zero_le _, rfl, Kept.refl w, Lib.hid (by rw [List.drop_zero, List.drop_zero])⟩
    case round =>
      obtain ⟨j, hm, hj, rfl, hk, HS⟩ := hrel
      have HK := Lib.hid hk
      clear hk
      by_cases hlt : j < l1.length
      · have hlt2 : j < l2.length := by have := HLN.out; omega
        obtain ⟨x, b, off, ⟨p', c', q', e'⟩, hxe, hp, hP, hbl, hx, y0, y1, y2, y3, y4, y5⟩ := (H1.out.kept HK.out).elem j hlt
        obtain ⟨y, bb, off2, ⟨p2', c2', q2', e2'⟩, hye, hp2, hP2, hbl2, hy, z0, z1, z2, z3, z4, z5⟩ := (H2.out.kept HK.out).elem j hlt2
        simp only [arrO, Ob.l] at hxe hye
        simp only [] at hp hp2 y4 y5 z4 z5
        subst hp
        subst hp2
        have HST := Lib.hid (show sameL (l1.drop j) (l2.drop j) = (x.same y && sameL (l1.drop (j + 1)) (l2.drop (j + 1))) by rw [sameL_step l1 l2 j hlt hlt2, hxe, hye])
        have HYW := Lib.hid (HW.out y (by rw [← hye]; exact List.getElem_mem hlt2))
        have HXL := Lib.hid hx
        have HYL := Lib.hid hy
        have CS := HI.out x (by rw [← hxe]; exact List.getElem_mem hlt) y ⟨p', c', q', e'⟩ ⟨p2', c2', q2', e2'⟩
        unfold objV at CS
        simp only [] at CS
        have CS1 := Lib.hid CS
        clear CS hx hy hxe hye hP hP2
        cases hb : x.same y
        · have HA := Lib.hid (show sameL l1 l2 = false by rw [HS.out, HST.out, hb, Bool.false_and])
          rw [hb] at CS1
          go_wp2_with fail
          (with_reducible refine (CS1.out _ ((HXL.out.kept ((Kept.refl _).alloc _ _)).kept ((Kept.refl _).alloc _ _)) ((HYL.out.kept ((Kept.refl _).alloc _ _)).kept ((Kept.refl _).alloc _ _)) HYW.out).mono ?_)
          rintro e w4 ⟨rfl, hk4⟩
          have HK4 := Lib.hid (((HK.out.alloc _ _).alloc _ _).trans hk4)
          clear hk4 y0 y1 y2 y3 y4 y5 z0 z1 z2 z3 z4 z5
          go_wp2_with fail
          go_ret
          exact ⟨ret_bool HA.out.symm, HK4.out⟩
        · have HS1 := Lib.hid (show sameL l1 l2 = sameL (l1.drop (j + 1)) (l2.drop (j + 1)) by rw [HS.out, HST.out, hb, Bool.true_and])
          rw [hb] at CS1
          go_wp2_with fail
          (with_reducible refine (CS1.out _ ((HXL.out.kept ((Kept.refl _).alloc _ _)).kept ((Kept.refl _).alloc _ _)) ((HYL.out.kept ((Kept.refl _).alloc _ _)).kept ((Kept.refl _).alloc _ _)) HYW.out).mono ?_)
          rintro e w4 ⟨rfl, hk4⟩
          have HK4 := Lib.hid (((HK.out.alloc _ _).alloc _ _).trans hk4)
          clear hk4 y0 y1 y2 y3 y4 y5 z0 z1 z2 z3 z4 z5
          go_wp2_with fail
          go_roundg (l1.length - (j + 1))
          case measure => omega
          case rel => exact ⟨j + 1, rfl, by omega, by go_num, HK4.out, HS1⟩
      · obtain rfl : j = l1.length := by omega
        have HA := Lib.hid (show sameL l1 l2 = true by rw [HS.out, List.drop_eq_nil_of_le (Nat.le_refl _), List.drop_eq_nil_of_le (by rw [HLN.out]; exact Nat.le_refl _), sameL])
        go_wp2_with fail
        go_ret
        exact ⟨ret_bool HA.out.symm, HK.out⟩
  · have hq : ((l1.length : Int) != (l2.length : Int)) = true := by
      rw [bne_iff_ne]; omega
    have HA := Lib.hid (sameL_len l1 l2 hlen)
    clear hlen
    go_enter Try.func21, Try.ntmps21
    go_wp2_with fail
    go_ret
    exact ⟨ret_bool HA.out.symm, Kept.refl w⟩

end Go.Proofs.Ytdfgbdonnpbfcaa
