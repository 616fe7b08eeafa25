/-
  A number, a Ref, a Word as objects; the next token of what is left of a text.
-/
import Derived.Test.YtnmehngedljgoaaGreatDoorCosTok
import Derived.Test.YtnmehngedljgoaaGreatDoorXBase
namespace Go.Proofs.YtnmehngedljgoaaGreatDoor
open Go.RowKit Cx
attribute [local go_sem ↓] Go.wp_at_zero Go.wp_at_succ

abbrev nul6 : Array Value := #[.int .i64 0, .int .i64 0, .int .i64 0, .string ⟨#[]⟩, .slice none 0 0, .slice none 0 0]

theorem pairS {w wx : World} {b c : Nat} {t u : TypeId} {x0 x1 x2 x3 x4 x5 y0 y1 y2 y3 y4 y5 : Value} {l : BlkList} (h : In w ((c, #[y0, y1, y2, y3, y4, y5], t) :: (b, #[x0, x1, x2, x3, x4, x5], u) :: l) wx) :
    wx.cell? ⟨b, 1, none⟩ = some x1 ∧ wx.cell? ⟨c, 1, none⟩ = some y1 :=
  ⟨(h.mem (List.mem_cons_of_mem _ List.mem_cons_self)).cell 1, (h.mem List.mem_cons_self).cell 1⟩

set_option maxRecDepth 100000 in
set_option maxHeartbeats 4000000 in
theorem pair_any (n g : Lx.Tok) (w : World) (h0 : -9223372036854775808 ≤ n.f) (h1 : n.f ≤ 9223372036854775807) :
    Calls Tryz.prog 159 #[tkV n, tkV g] w fun e w' => e = .returned (objV (.mk 7 (n.f.tdiv 1000) g.f ⟨#[]⟩ [] []) Hd.none) ∧ Kept w w' := by
  obtain ⟨k, f, s, wh, fr, tq⟩ := n
  obtain ⟨k', f', s', wh', fr', tq'⟩ := g
  have CU := Lib.hid (fun w => units_any f w h0 h1)
  unfold tkV objV Hd.none
  simp only [Ob.k, Ob.n, Ob.f, Ob.s, Ob.l, Ob.d, List.length_nil]
  have HX := Lib.hid (In.fresh' (k := w.heap.size + 1) (In.fresh (In.start w) #[.int .i64 k, .int .i64 f, .string ⟨s.toArray⟩, .bool wh, .int .i64 fr, .int .i64 tq] 108) #[.int .i64 k', .int .i64 f', .string ⟨s'.toArray⟩, .bool wh', .int .i64 fr', .int .i64 tq'] 108 (by simp))
  have HX1 := Lib.hid (In.fresh' (k := w.heap.size + 1 + 1) HX.out nul6 26 (by simp))
  clear HX
  go_enter Tryz.func159, Tryz.ntmps159
  go_wp2_with fail
  go_region_held3 (fun w' => w'.cell? ⟨w.heap.size, 1, none⟩ = some (.int .i64 f) ∧ w'.cell? ⟨w.heap.size + 1, 1, none⟩ = some (.int .i64 f')) (first | with_reducible exact pairS HX1.out.tail | with_reducible exact pairS HX1.out.tail.drew | go_keep)
    (first | (go_at_call 189; (with_reducible refine (CU.out _).mono ?_); rintro e wn ⟨rfl, rfl⟩))
  all_goals
    go_wp2_with fail
    refine bodyPost_ret (v := .agg #[.int .i64 7, .int .i64 (f.tdiv 1000), .int .i64 f', .string ⟨#[]⟩, .slice none 0 0, .slice none 0 0]) ?_ rfl ⟨rfl, ?_⟩
    · simp [results, Tryz.results159, go_sem]
    · repeat (with_reducible first | exact (Kept.refl w) | refine Kept.drew ?_ | refine Kept.alloc ?_ _ _ | refine Kept.set ?_ (by simp) _ | refine Kept.set ?_ (by simp; omega) _)

set_option maxRecDepth 100000 in
set_option maxHeartbeats 4000000 in
theorem wordOf_any (t : Lx.Tok) (w : World) :
    Calls Tryz.prog 99 #[tkV t] w fun e w' => e = .returned (.tuple #[objV (wordV t.s).2 Hd.none, .int .i64 (wordV t.s).1]) ∧ Kept w w' := by
  obtain ⟨k, f, s, wh, fr, tq⟩ := t
  unfold tkV objV Hd.none
  simp only []
  have hs : (⟨s.toArray⟩ : ByteArray).toList = s := by rw [Lib.toList_data]
  cases h1 : (s == [116, 114, 117, 101])
  · cases h2 : (s == [102, 97, 108, 115, 101])
    · cases h3 : (s == [110, 117, 108, 108])
      · have HV := Lib.hid (show wordV s = (3, nul) by unfold wordV; rw [h1, h2, h3]; rfl)
        rw [HV.out]
        unfold nul
        simp only [Ob.k, Ob.n, Ob.f, Ob.s, Ob.l, Ob.d, List.length_nil]
        go_enter Tryz.func99, Tryz.ntmps99
        go_wp2_with fail
        refine bodyPost_ret (v := .tuple #[.agg #[.int .i64 0, .int .i64 0, .int .i64 0, .string ⟨#[]⟩, .slice none 0 0, .slice none 0 0], .int .i64 3]) ?_ rfl ⟨rfl, ?_⟩
        · simp [results, Tryz.results99, go_sem]
        · repeat (with_reducible first | exact (Kept.refl w) | refine Kept.drew ?_ | refine Kept.alloc ?_ _ _ | refine Kept.set ?_ (by simp) _)
      · have HV := Lib.hid (show wordV s = (0, nul) by unfold wordV; rw [h1, h2, h3]; rfl)
        rw [HV.out]
        unfold nul
        simp only [Ob.k, Ob.n, Ob.f, Ob.s, Ob.l, Ob.d, List.length_nil]
        go_enter Tryz.func99, Tryz.ntmps99
        go_wp2_with fail
        refine bodyPost_ret (v := .tuple #[.agg #[.int .i64 0, .int .i64 0, .int .i64 0, .string ⟨#[]⟩, .slice none 0 0, .slice none 0 0], .int .i64 0]) ?_ rfl ⟨rfl, ?_⟩
        · simp [results, Tryz.results99, go_sem]
        · repeat (with_reducible first | exact (Kept.refl w) | refine Kept.drew ?_ | refine Kept.alloc ?_ _ _ | refine Kept.set ?_ (by simp) _)
    · have HV := Lib.hid (show wordV s = (0, .mk 1 0 0 ⟨#[]⟩ [] []) by unfold wordV; rw [h1, h2]; rfl)
      rw [HV.out]
      simp only [Ob.k, Ob.n, Ob.f, Ob.s, Ob.l, Ob.d, List.length_nil]
      go_enter Tryz.func99, Tryz.ntmps99
      go_wp2_with fail
      refine bodyPost_ret (v := .tuple #[.agg #[.int .i64 1, .int .i64 0, .int .i64 0, .string ⟨#[]⟩, .slice none 0 0, .slice none 0 0], .int .i64 0]) ?_ rfl ⟨rfl, ?_⟩
      · simp [results, Tryz.results99, go_sem]
      · repeat (with_reducible first | exact (Kept.refl w) | refine Kept.drew ?_ | refine Kept.alloc ?_ _ _ | refine Kept.set ?_ (by simp) _)
  · have HV := Lib.hid (show wordV s = (0, .mk 1 1 0 ⟨#[]⟩ [] []) by unfold wordV; rw [h1]; rfl)
    rw [HV.out]
    simp only [Ob.k, Ob.n, Ob.f, Ob.s, Ob.l, Ob.d, List.length_nil]
    go_enter Tryz.func99, Tryz.ntmps99
    go_wp2_with fail
    refine bodyPost_ret (v := .tuple #[.agg #[.int .i64 1, .int .i64 1, .int .i64 0, .string ⟨#[]⟩, .slice none 0 0, .slice none 0 0], .int .i64 0]) ?_ rfl ⟨rfl, ?_⟩
    · simp [results, Tryz.results99, go_sem]
    · repeat (with_reducible first | exact (Kept.refl w) | refine Kept.drew ?_ | refine Kept.alloc ?_ _ _ | refine Kept.set ?_ (by simp) _)

end Go.Proofs.YtnmehngedljgoaaGreatDoor
