/-
  The document's examples of layer 3.
-/
import Derived.Test.YtoakbcjdkohoiaaLexToken
import Derived.Test.YtoakbcjdkohoiaaLexNameOf
import Derived.Test.YtoakbcjdkohoiaaHas
namespace Go.Proofs.Ytoakbcjdkohoiaa
open Go.RowKit

theorem next_let (s : ByteArray) (a : Int) (hs : s.size ≤ 4294967295) (T : Int × Lx.Tok) (hT : T = Lx.nextV s.data.toList a) (w : World) (hm : HasMax w) :
    Calls Try.prog 9 #[.string s, .int .i64 a] w fun e w' =>
      e = .returned (.tuple #[.agg #[.int .i64 T.2.kind, .int .i64 T.2.f, .string ⟨T.2.s.toArray⟩, .bool T.2.whole, .int .i64 T.2.frm, .int .i64 T.2.to], .int .i64 T.1]) ∧ Kept w w' := Next_any s a w hs hm T hT

theorem ex1 : Lx.nextV [47, 65, 35, 50, 48, 66, 32, 49] 0 = (0, ⟨2, 0, [65, 32, 66], false, 0, 6⟩) := by kernel_rfl
theorem ex2 : Lx.nextV [40, 97, 92, 40, 98, 41] 0 = (0, ⟨3, 0, [97, 40, 98], false, 0, 6⟩) := by kernel_rfl
theorem ex3 : Lx.nextV [60, 52, 62] 0 = (0, ⟨3, 0, [64], false, 0, 3⟩) := by kernel_rfl

set_option maxRecDepth 100000 in
set_option maxHeartbeats 4000000 in
theorem awake_any (w : World) (hm : HasMax w) :
    Calls Try.prog 8 #[] w fun e w' => e = .returned (.bool true) ∧ Kept w w' := by
  have HM := Lib.hid hm
  clear hm
  go_enter Try.func8, Try.ntmps8
  go_wp2_with fail
  refine (Next_any ⟨#[47, 65, 35, 50, 48, 66, 32, 49]⟩ 0 _ (by decide) HM.out _ ex1.symm).mono ?_
  rintro e w1 ⟨rfl, hk1⟩
  have H1 := Lib.hid (show In w [] w1 from ⟨hk1, fun _ h => absurd h List.not_mem_nil⟩)
  clear hk1
  go_wp2_with fail
  have G1 := Lib.hid (In.fresh H1.out #[.int .i64 2, .int .i64 0, .string ⟨#[65, 32, 66]⟩, .bool false, .int .i64 0, .int .i64 6] 25)
  refine (Next_any ⟨#[40, 97, 92, 40, 98, 41]⟩ 0 _ (by decide) (HM.out.kept G1.out.1) _ ex2.symm).mono ?_
  rintro e w2 ⟨rfl, hk2⟩
  have H2 := Lib.hid (G1.out.kept hk2)
  clear hk2
  go_wp2_with fail
  have G2 := Lib.hid (In.fresh H2.out #[.int .i64 3, .int .i64 0, .string ⟨#[97, 40, 98]⟩, .bool false, .int .i64 0, .int .i64 6] 25)
  refine (Next_any ⟨#[60, 52, 62]⟩ 0 _ (by decide) (HM.out.kept G2.out.1) _ ex3.symm).mono ?_
  rintro e w3 ⟨rfl, hk3⟩
  have H3 := Lib.hid (G2.out.kept hk3)
  have B1 := Lib.hid (In.mem H3.out (List.mem_cons_of_mem _ List.mem_cons_self))
  have B2 := Lib.hid (In.mem H3.out List.mem_cons_self)
  obtain ⟨a0, _, a2, _, _, _⟩ := B1.out.cells6
  obtain ⟨_, _, b2, _, _, _⟩ := B2.out.cells6
  have z1 : w1.heap.size < w3.heap.size := B1.out.lt
  have z2 : w2.heap.size < w3.heap.size := B2.out.lt
  clear hk3
  go_wp2_with fail
  have G3 := Lib.hid (In.fresh H3.out #[.int .i64 3, .int .i64 0, .string ⟨#[64]⟩, .bool false, .int .i64 0, .int .i64 3] 25)
  refine (Quote_any ⟨#[40]⟩ _ (by decide)).mono ?_
  rintro e w4 ⟨rfl, hk4⟩
  have H4 := Lib.hid (G3.out.kept hk4)
  clear hk4
  have q1 : (⟨(Lx.quoteV (⟨#[40]⟩ : ByteArray).data.toList).toArray⟩ : ByteArray) = ⟨#[40, 92, 40, 41]⟩ := by kernel_rfl
  rw [q1]
  clear q1
  go_wp2_with fail
  refine (NameOf_any ⟨#[65, 32, 66]⟩ _ (by decide)).mono ?_
  rintro e w5 ⟨rfl, hk5⟩
  have H5 := Lib.hid (H4.out.kept hk5)
  clear hk5
  have q2 : (⟨(Lx.nameV (⟨#[65, 32, 66]⟩ : ByteArray).data.toList).toArray⟩ : ByteArray) = ⟨#[47, 65, 35, 50, 48, 66]⟩ := by kernel_rfl
  rw [q2]
  clear q2
  go_wp2_with fail
  go_ret
  exact ⟨rfl, H5.out.1⟩

end Go.Proofs.Ytoakbcjdkohoiaa
