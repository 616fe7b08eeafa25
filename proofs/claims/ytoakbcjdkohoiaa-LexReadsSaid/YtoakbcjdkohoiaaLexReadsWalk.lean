/-
  LexReads: which token any text has behind any place, and where white and comments end, is what the document says.
-/
import Derived.Test.YtoakbcjdkohoiaaLexRefNext
import Derived.Test.YtoakbcjdkohoiaaLexAwake
import Derived.Test.YtoakbcjdkohoiaaHas
import Derived.Deep.RegionHeld3
import Derived.Deep.DrawnRows
namespace Go.Proofs.Ytoakbcjdkohoiaa
open Go.RowKit
attribute [local go_sem ↓] Go.wp_at_zero Go.wp_at_succ

theorem theirs_any (k f : Int) (s : ByteArray) (b : Bool) (fr tq : Int) (w : World) :
    Calls Try.prog 12 #[.agg #[.int .i64 k, .int .i64 f, .string s, .bool b, .int .i64 fr, .int .i64 tq]] w fun e w' =>
      e = .returned (.agg #[.int .i64 k, .int .i64 f, .string s, .bool b, .int .i64 fr, .int .i64 tq]) ∧ Kept w w' := by
  go_enter Try.func12, Try.ntmps12
  go_wp2_with fail
  refine bodyPost_ret (v := .agg #[.int .i64 k, .int .i64 f, .string s, .bool b, .int .i64 fr, .int .i64 tq]) ?_ rfl ⟨rfl, ?_⟩
  · simp [results, Try.results12, go_sem]
  · repeat (with_reducible first | exact (Kept.refl w) | refine Kept.drew ?_ | refine Kept.alloc ?_ _ _ | refine Kept.set ?_ (Nat.le_refl _) _ | refine Kept.set ?_ (Nat.le_succ _) _)

theorem RSame_any (k f : Int) (s : ByteArray) (b : Bool) (fr tq : Int) (w : World) :
    Calls Try.prog 11 #[.agg #[.int .i64 k, .int .i64 f, .string s, .bool b, .int .i64 fr, .int .i64 tq], .agg #[.int .i64 k, .int .i64 f, .string s, .bool b, .int .i64 fr, .int .i64 tq]] w fun e w' =>
      e = .returned (.bool true) ∧ Kept w w' := by
  go_enter Try.func11, Try.ntmps11
  go_wp2_with fail
  go_ret
  exact ⟨rfl, ((Kept.refl w).alloc _ _).alloc _ _⟩

section
variable {w wx : World} {b c : Nat} {t u : TypeId} {x0 x1 x2 x3 x4 x5 : Value}
theorem toksS (h : In w [(c, #[x0, x1, x2, x3, x4, x5], t), (b, #[x0, x1, x2, x3, x4, x5], u)] wx) :
    wx.cell? ⟨b, 0, none⟩ = some x0 ∧ wx.cell? ⟨b, 1, none⟩ = some x1 ∧ wx.cell? ⟨b, 2, none⟩ = some x2 ∧ wx.cell? ⟨b, 3, none⟩ = some x3 ∧ wx.cell? ⟨b, 4, none⟩ = some x4 ∧ wx.cell? ⟨b, 5, none⟩ = some x5 ∧
    wx.cell? ⟨c, 0, none⟩ = some x0 ∧ wx.cell? ⟨c, 1, none⟩ = some x1 ∧ wx.cell? ⟨c, 2, none⟩ = some x2 ∧ wx.cell? ⟨c, 3, none⟩ = some x3 ∧ wx.cell? ⟨c, 4, none⟩ = some x4 ∧ wx.cell? ⟨c, 5, none⟩ = some x5 :=
  ⟨(h.mem (List.mem_cons_of_mem _ List.mem_cons_self)).cell 0, (h.mem (List.mem_cons_of_mem _ List.mem_cons_self)).cell 1, (h.mem (List.mem_cons_of_mem _ List.mem_cons_self)).cell 2, (h.mem (List.mem_cons_of_mem _ List.mem_cons_self)).cell 3, (h.mem (List.mem_cons_of_mem _ List.mem_cons_self)).cell 4, (h.mem (List.mem_cons_of_mem _ List.mem_cons_self)).cell 5,
   (h.mem List.mem_cons_self).cell 0, (h.mem List.mem_cons_self).cell 1, (h.mem List.mem_cons_self).cell 2, (h.mem List.mem_cons_self).cell 3, (h.mem List.mem_cons_self).cell 4, (h.mem List.mem_cons_self).cell 5⟩
end

set_option maxRecDepth 100000 in
set_option maxHeartbeats 8000000 in
theorem lexReads_any (s : ByteArray) (a : Int) (bt : Int) (w : World) (hm : HasMax w) (hb0 : 0 ≤ bt) (hb1 : bt ≤ 255) :
    Calls Try.prog 3 #[.string s, .int .i64 a, .int .u8 bt] w fun e w' => e = .returned (.bool true) ∧ Kept w w' := by
  have HM := Lib.hid hm
  clear hm
  obtain ⟨c, rfl⟩ := Lx.u8_int bt hb0 hb1
  by_cases hs : 1000 < s.size
  · go_enter Try.func3, Try.ntmps3
    go_wp2_with fail
    refine (awake_any _ HM.out).mono ?_
    rintro e w1 ⟨rfl, hk1⟩
    go_wp2_with fail
    go_ret
    exact ⟨rfl, hk1⟩
  have hs' : s.size ≤ 1000 := by omega
  clear hs hb0 hb1
  obtain ⟨⟨er, kd, fv, st, wh, fr, tq⟩, hT⟩ : ∃ T, T = Lx.nextV s.data.toList a := ⟨_, rfl⟩
  have HTT := Lib.hid hT
  clear hT
  obtain ⟨sp, hsp⟩ : ∃ sp : Int, sp = (Lx.spaceV s.data.toList a : Nat) := ⟨_, rfl⟩
  have CS := Lib.hid (show ∀ w, Calls Try.prog 13 #[.string s, .int .i64 a] w fun e w' => e = .returned (.int .i64 sp) ∧ Kept w w' from fun w => by rw [hsp]; exact Space_any s a w (by omega))
  have CR := Lib.hid (show ∀ w, Calls Try.prog 14 #[.string s, .int .i64 a] w fun e w' => e = .returned (.int .i64 sp) ∧ w = w' from fun w => by rw [hsp]; exact RSpace_any s a w (by omega))
  obtain ⟨wt, hwt⟩ : ∃ wt, wt = Lx.white c := ⟨_, rfl⟩
  obtain ⟨dl, hdl⟩ : ∃ dl, dl = Lx.delim c := ⟨_, rfl⟩
  have CW := Lib.hid (show ∀ w, Calls Try.prog 15 #[.int .u8 (c.toNat : Int)] w fun e w' => e = .returned (.bool wt) ∧ w = w' from fun w => by rw [hwt]; exact White_any c w)
  have CW' := Lib.hid (show ∀ w, Calls Try.prog 16 #[.int .u8 (c.toNat : Int)] w fun e w' => e = .returned (.bool wt) ∧ w = w' from fun w => by rw [hwt]; exact RWhite_any c w)
  have CD := Lib.hid (show ∀ w, Calls Try.prog 17 #[.int .u8 (c.toNat : Int)] w fun e w' => e = .returned (.bool dl) ∧ w = w' from fun w => by rw [hdl]; exact Delim_any c w)
  have CD' := Lib.hid (show ∀ w, Calls Try.prog 18 #[.int .u8 (c.toNat : Int)] w fun e w' => e = .returned (.bool dl) ∧ w = w' from fun w => by rw [hdl]; exact RDelim_any c w)
  clear hsp hwt hdl
  go_enter Try.func3, Try.ntmps3
  go_wp2_with fail
  refine (awake_any _ HM.out).mono ?_
  rintro e w1 ⟨rfl, hk1⟩
  have HK1 := Lib.hid hk1
  clear hk1
  go_wp2_with fail
  (with_reducible refine (Next_any s a _ (by omega) (HM.out.kept HK1.out) _ HTT.out).mono ?_)
  rintro e w2 ⟨rfl, hk2⟩
  have H2 := Lib.hid (show In w [] w2 from ⟨HK1.out.trans hk2, fun _ h => absurd h List.not_mem_nil⟩)
  clear hk2
  simp only []
  go_wp2_with fail
  (with_reducible refine (RNext_any s a _ (by omega) _ HTT.out).mono ?_)
  rintro e w3 ⟨rfl, hk3⟩
  have HX := Lib.hid ((In.fresh H2.out #[.int .i64 kd, .int .i64 fv, .string ⟨st.toArray⟩, .bool wh, .int .i64 fr, .int .i64 tq] 25).kept hk3)
  clear hk3
  have HX1 := Lib.hid (In.fresh HX.out #[.int .i64 kd, .int .i64 fv, .string ⟨st.toArray⟩, .bool wh, .int .i64 fr, .int .i64 tq] 29)
  clear HX
  have HX := HX1
  clear HX1
  simp only []
  go_wp2_with fail
  have eer : (er == er) = true := by simp
  go_region_held3 (fun w' => w'.cell? ⟨w2.heap.size, 0, none⟩ = some (.int .i64 kd) ∧ w'.cell? ⟨w2.heap.size, 1, none⟩ = some (.int .i64 fv) ∧ w'.cell? ⟨w2.heap.size, 2, none⟩ = some (.string ⟨st.toArray⟩) ∧ w'.cell? ⟨w2.heap.size, 3, none⟩ = some (.bool wh) ∧ w'.cell? ⟨w2.heap.size, 4, none⟩ = some (.int .i64 fr) ∧ w'.cell? ⟨w2.heap.size, 5, none⟩ = some (.int .i64 tq) ∧ w'.cell? ⟨w3.heap.size, 0, none⟩ = some (.int .i64 kd) ∧ w'.cell? ⟨w3.heap.size, 1, none⟩ = some (.int .i64 fv) ∧ w'.cell? ⟨w3.heap.size, 2, none⟩ = some (.string ⟨st.toArray⟩) ∧ w'.cell? ⟨w3.heap.size, 3, none⟩ = some (.bool wh) ∧ w'.cell? ⟨w3.heap.size, 4, none⟩ = some (.int .i64 fr) ∧ w'.cell? ⟨w3.heap.size, 5, none⟩ = some (.int .i64 tq)) (first | with_reducible exact toksS HX.out | with_reducible exact toksS HX.out.drew)
    (first
      | (go_at_call 12; (with_reducible refine (theirs_any _ _ _ _ _ _ _).mono ?_); rintro e wn ⟨rfl, kn⟩; (first | (with_reducible have HX := Lib.hid (In.kept HX.out kn)) | (with_reducible have HX := Lib.hid (In.kept (In.drew HX.out) kn))))
      | (go_at_call 11; (with_reducible refine (RSame_any _ _ _ _ _ _ _).mono ?_); rintro e wn ⟨rfl, kn⟩; (first | (with_reducible have HX := Lib.hid (In.kept HX.out kn)) | (with_reducible have HX := Lib.hid (In.kept (In.drew HX.out) kn))))
      | (go_at_call 13; (with_reducible refine (CS.out _).mono ?_); rintro e wn ⟨rfl, kn⟩; (first | (with_reducible have HX := Lib.hid (In.kept HX.out kn)) | (with_reducible have HX := Lib.hid (In.kept (In.drew HX.out) kn))))
      | (go_at_call 14; (with_reducible refine (CR.out _).mono ?_); rintro e wn ⟨rfl, rfl⟩)
      | (go_at_call 15; (with_reducible refine (CW.out _).mono ?_); rintro e wn ⟨rfl, rfl⟩)
      | (go_at_call 16; (with_reducible refine (CW'.out _).mono ?_); rintro e wn ⟨rfl, rfl⟩)
      | (go_at_call 17; (with_reducible refine (CD.out _).mono ?_); rintro e wn ⟨rfl, rfl⟩)
      | (go_at_call 18; (with_reducible refine (CD'.out _).mono ?_); rintro e wn ⟨rfl, rfl⟩))
  go_wp2_with fail
  go_ret
  exact ⟨rfl, HX.out.1⟩

end Go.Proofs.Ytoakbcjdkohoiaa
