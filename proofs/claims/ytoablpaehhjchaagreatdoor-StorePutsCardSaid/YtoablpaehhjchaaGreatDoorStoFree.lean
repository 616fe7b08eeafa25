import Derived.Test.YtoablpaehhjchaaGreatDoorStoM
import Derived.Test.YtoablpaehhjchaaGreatDoorStoR
import Derived.Deep.OwnRows
namespace Go.Proofs.YtoablpaehhjchaaGreatDoor
open Go.RowKit Cx Sx
set_option linter.unusedSimpArgs false
set_option linter.unusedVariables false

def FreePost (l : List Nm) (w : World) (e : Ending) (w' : World) : Prop := ∃ n : Int, IsFree l n ∧ e = .returned (.int .i64 n) ∧ Kept w w'
set_option maxRecDepth 100000 in
set_option maxHeartbeats 8000000 in
theorem Free_any (P : Nat → Prop) (l : List Nm) (p : Option Addr) (c : Nat) (t : Ob) (ht : Hd) (w : World) (h : NmR P w p l) (hb : l.length ≤ 1099511627776) :
    Calls Tryz.prog 24 #[fileV l p c t ht] w (FreePost l w) := by
  have HL := Lib.hid h.low
  obtain ⟨i0, hi, hz0, hz1, hz2⟩ := info_parts (P := Tryz.prog) (e := 4) (z := .bool false) (size := 1) (bytes := 1) (by kernel_rfl)
  have H0 := Lib.hid (In.fresh (In.start w) #[.slice p l.length c, .int .i64 t.k, .int .i64 t.n, .int .i64 t.f, .string t.s, .slice ht.p t.l.length ht.c, .slice ht.q t.d.length ht.e] 46)
  have HSZ := Lib.hid (show w.heap.size < (w.alloc (.cells #[.slice p l.length c, .int .i64 t.k, .int .i64 t.n, .int .i64 t.f, .string t.s, .slice ht.p t.l.length ht.c, .slice ht.q t.d.length ht.e] 46)).heap.size from (H0.out.mem List.mem_cons_self).lt)
  have H1 := Lib.hid (In.alloc H0.out (.cells (madeCells #[.bool false] (l.length + 1)) 4))
  have R1 := Lib.hid (show ((w.alloc (.cells #[.slice p l.length c, .int .i64 t.k, .int .i64 t.n, .int .i64 t.f, .string t.s, .slice ht.p t.l.length ht.c, .slice ht.q t.d.length ht.e] 46)).alloc (.cells (madeCells #[.bool false] (l.length + 1)) 4)).rowIs (w.heap.size + 1) 4 (l.length + 1) (fun i => .bool (takenF l 0 i)) from by
    have := World.rowIs_made (w.alloc (.cells #[.slice p l.length c, .int .i64 t.k, .int .i64 t.n, .int .i64 t.f, .string t.s, .slice ht.p t.l.length ht.c, .slice ht.q t.d.length ht.e] 46)) (.bool false) (l.length + 1) 4
    rw [show (w.alloc (.cells #[.slice p l.length c, .int .i64 t.k, .int .i64 t.n, .int .i64 t.f, .string t.s, .slice ht.p t.l.length ht.c, .slice ht.q t.d.length ht.e] 46)).heap.size = w.heap.size + 1 by simp] at this
    exact this.congr (fun i _ => by rw [taken_zero]))
  clear h
  unfold fileV
  obtain ⟨f0, f1, f2, f3, f4, f5, f6⟩ := (H0.out.mem List.mem_cons_self).cells7
  go_enter Tryz.func24, Tryz.ntmps24
  go_wp2_with (at_make; refine wpList_make_row _ rfl _ _ 90 rfl 4 i0 (.bool false) Tryz.underlying90 hi hz0 hz1 rfl .i64 .i64 (l.length + 1) rfl rfl (by rw [hz2]; omega) (by omega) ?_)
  clear f0 f1 f2 f3 f4 f5 f6
  obtain ⟨f0, f1, f2, f3, f4, f5, f6⟩ := (H1.out.mem List.mem_cons_self).cells7
  have fz := (H1.out.mem List.mem_cons_self).lt
  go_wp2_with fail
  go_loopg [15] (l.length) (fun m i wr => ∃ j : Nat, m = l.length - j ∧ j ≤ l.length ∧ i = .int .i64 j ∧ In w [(w.heap.size, #[.slice p l.length c, .int .i64 t.k, .int .i64 t.n, .int .i64 t.f, .string t.s, .slice ht.p t.l.length ht.c, .slice ht.q t.d.length ht.e], 46)] wr ∧ Hid (wr.rowIs (w.heap.size + 1) 4 (l.length + 1) (fun i => .bool (takenF l j i))))
  case atStart => exact ⟨0, rfl, Nat.zero_le _, rfl, H1.out, R1⟩
  case round =>
    obtain ⟨j, hm, hj, rfl, hin, HR⟩ := hrel
    have HI := Lib.hid hin
    have KI := Lib.hid (In.k hin)
    have rz := HR.out.lt
    have rf := HR.out.frozen
    clear hin f0 f1 f2 f3 f4 f5 f6 fz H0 H1 R1 hi hz0 hz1 hz2
    obtain ⟨f0, f1, f2, f3, f4, f5, f6⟩ := (HI.out.mem List.mem_cons_self).cells7
    have fz := (HI.out.mem List.mem_cons_self).lt
    by_cases hlt : j < l.length
    · obtain ⟨b, off, ⟨p', c', q', e'⟩, hq, hPb, hbl, hx, z0, z1, y0, y1, y2, y3, y4, y5⟩ := (HL.out.kept KI.out).at' j hlt
      subst hq
      have hbne : b ≠ w.heap.size + 1 := by omega
      obtain ⟨x, hxe⟩ : ∃ x, l[j] = x := ⟨_, rfl⟩
      have HIN := Lib.hid (fun z (hz : x.n = ((z : Nat) : Int)) (h0 : 0 < z) => fun i => taken_in hlt (z := z) (by rw [hxe]; exact hz) h0 i)
      have HOUT := Lib.hid (fun (h : ¬ (0 < x.n ∧ x.n < ((l.length + 1 : Nat) : Int))) => fun i (hi : i < l.length + 1) => taken_out hlt (L := l.length + 1) (by rw [hxe]; exact h) i hi)
      rw [hxe] at z0 z1 y0 y1 y2 y3 y4 y5
      obtain ⟨xn, xg, xo⟩ := x
      simp only [] at z0 z1 y0 y1 y2 y3 y4 y5 HIN HOUT
      clear hxe hx hPb
      by_cases h0 : 0 < xn
      · by_cases h1 : xn < (l.length : Int) + 1
        · obtain ⟨z, rfl⟩ : ∃ z : Nat, xn = (z : Int) := ⟨xn.toNat, by omega⟩
          have hz : z < l.length + 1 := by omega
          have hzi : (0 : Int) ≤ (z : Int) := by omega
          have rc := HR.out.cell hz
          obtain ⟨b0, hb0⟩ : ∃ b0, b0 = takenF l j z := ⟨_, rfl⟩
          rw [← hb0] at rc
          have HT := Lib.hid (HIN.out z rfl (by omega))
          clear hb0 HIN HOUT
          go_wp2_with fail
          go_roundg (l.length - (j + 1))
          case measure => omega
          case rel =>
            refine ⟨j + 1, rfl, by omega, by go_num, ?_, Lib.hid ?_⟩
            · repeat (with_reducible first | exact HI.out | refine In.alloc ?_ _ | refine In.other ?_ (by omega) (fun x hx => by simp only [List.mem_cons, List.not_mem_nil, or_false] at hx; subst hx; simp only []; omega) _)
            · refine World.rowIs.congr (f := fun i => if i = z then .bool true else .bool (takenF l j i)) ?_ (fun i hi => by rw [← HT.out i]; split <;> rfl)
              first
                | exact (HR.out.set z (.bool true)).alloc _
                | exact World.rowIs.set (HR.out.alloc _) z (.bool true)
        · have HT := Lib.hid (HOUT.out (by omega))
          clear HIN HOUT
          go_wp2_with fail
          go_roundg (l.length - (j + 1))
          case measure => omega
          case rel =>
            refine ⟨j + 1, rfl, by omega, by go_num, ?_, Lib.hid ?_⟩
            · repeat (with_reducible first | exact HI.out | refine In.alloc ?_ _ | refine In.drew ?_)
            · refine World.rowIs.congr (f := fun i => .bool (takenF l j i)) ?_ (fun i hi => by rw [HT.out i hi])
              repeat (with_reducible first | exact HR.out | refine World.rowIs.alloc ?_ _ | refine World.rowIs.drew ?_)
      · have HT := Lib.hid (HOUT.out (by omega))
        clear HIN HOUT
        go_wp2_with fail
        go_roundg (l.length - (j + 1))
        case measure => omega
        case rel =>
          refine ⟨j + 1, rfl, by omega, by go_num, ?_, Lib.hid ?_⟩
          · repeat (with_reducible first | exact HI.out | refine In.alloc ?_ _ | refine In.drew ?_)
          · refine World.rowIs.congr (f := fun i => .bool (takenF l j i)) ?_ (fun i hi => by rw [HT.out i hi])
            repeat (with_reducible first | exact HR.out | refine World.rowIs.alloc ?_ _ | refine World.rowIs.drew ?_)
    · obtain rfl : j = l.length := by omega
      go_wp2_with fail
      go_loopg [6] (l.length + 1) (fun m i wr => ∃ n : Nat, m = l.length + 2 - n ∧ 1 ≤ n ∧ n ≤ l.length + 1 ∧ i = .int .i64 n ∧ Hid (∀ k, 1 ≤ k → k < n → takenF l l.length k = true) ∧ Hid (Kept w wr) ∧ Hid (wr.rowIs (w.heap.size + 1) 4 (l.length + 1) (fun i => .bool (takenF l l.length i))))
      case atStart => exact ⟨1, by omega, Nat.le_refl _, by omega, rfl, Lib.hid (fun k h1 h2 => by omega), KI, HR⟩
      case round =>
        obtain ⟨n, hm, hn1, hn2, rfl, HA, HK, HR⟩ := hrel
        clear f0 f1 f2 f3 f4 f5 f6 fz rz rf
        have rz := HR.out.lt
        by_cases hlt : n < l.length + 1
        · have rc := HR.out.cell hlt
          have i1 : (n : Int) < (l.length : Int) + 1 := by omega
          have i0 : (0 : Int) ≤ (n : Int) := by omega
          obtain ⟨b0, hb0⟩ : ∃ b0, takenF l l.length n = b0 := ⟨_, rfl⟩
          rw [hb0] at rc
          cases b0 with
          | false =>
            have HF := Lib.hid (free_at hn1 hlt HA.out hb0)
            clear hb0
            go_wp2_with fail
            try (go_quiet (fail); go_wp2_with fail)
            go_ret
            exact ⟨_, HF.out, rfl, by repeat (with_reducible first | exact HK.out | refine Kept.drew ?_ | refine Kept.drewN ?_ _)⟩
          | true =>
            have HB := Lib.hid (show ∀ k, 1 ≤ k → k < n + 1 → takenF l l.length k = true from fun k h1 h2 => by
              by_cases e : k = n
              · rw [e]; exact hb0
              · exact HA.out k h1 (by omega))
            clear hb0
            go_wp2_with fail
            try (go_quiet (fail); go_wp2_with fail)
            go_roundg (l.length + 2 - (n + 1))
            case measure => omega
            case rel => exact ⟨n + 1, rfl, by omega, by omega, by go_num, HB, Lib.hid (by repeat (with_reducible first | exact HK.out | refine Kept.drew ?_ | refine Kept.drewN ?_ _)), Lib.hid (by repeat (with_reducible first | exact HR.out | refine World.rowIs.drew ?_))⟩
        · obtain rfl : n = l.length + 1 := by omega
          have HF := Lib.hid (free_end HA.out)
          have i1 : ¬ ((l.length : Int) + 1 < (l.length : Int) + 1) := by omega
          rw [show ((l.length + 1 : Nat) : Int) = (l.length : Int) + 1 from rfl]
          rw [show ((l.length + 1 : Nat) : Int) = (l.length : Int) + 1 from rfl] at HF
          go_wp2_with fail
          try (go_quiet (fail); go_wp2_with fail)
          go_ret
          exact ⟨_, HF.out, rfl, by repeat (with_reducible first | exact HK.out | refine Kept.drew ?_ | refine Kept.drewN ?_ _)⟩

end Go.Proofs.YtoablpaehhjchaaGreatDoor
