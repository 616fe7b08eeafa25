import Derived.Test.YtoablpaehhjchaaGreatDoorCosT
import Derived.Test.YtoablpaehhjchaaGreatDoorXrfM
import Derived.Test.YtoablpaehhjchaaGreatDoorXrfRow
import Derived.Test.YtoablpaehhjchaaGreatDoorXrfA
import Derived.OwnWalk
import Derived.Test.YtoablpaehhjchaaGreatDoorCosD
import Derived.Test.YtoablpaehhjchaaGreatDoorCosP
namespace Go.Proofs.YtoablpaehhjchaaGreatDoor
open Go.RowKit Rx
set_option linter.unusedSimpArgs false
set_option linter.unusedVariables false
attribute [local go_sem ↓] Go.wp_at_zero Go.wp_at_succ

def Rdr (s : ByteArray) (a : Int) (rb : Nat) (w : World) : Prop := Blk w rb #[.string s, .int .i64 a] 93
theorem Rdr.kept {s : ByteArray} {a : Int} {rb : Nat} {w w' : World} (h : Rdr s a rb w) (k : Kept w w') : Rdr s a rb w' := Blk.kept h k
theorem Rdr.lt {s : ByteArray} {a : Int} {rb : Nat} {w : World} (h : Rdr s a rb w) : rb < w.heap.size := Blk.lt h
theorem Rdr.other {s : ByteArray} {a : Int} {rb : Nat} {w : World} (h : Rdr s a rb w) {k o : Nat} (n : rb ≠ k) (v : Value) : Rdr s a rb (w.setCell ⟨k, o, none⟩ v) := Blk.other h n v
theorem Rdr.alloc {s : ByteArray} {a : Int} {rb : Nat} {w : World} (h : Rdr s a rb w) (o : Obj) : Rdr s a rb (w.alloc o) := Blk.alloc h o
theorem Rdr.drew {s : ByteArray} {a : Int} {rb : Nat} {w : World} (h : Rdr s a rb w) : Rdr s a rb w.drew := h
theorem Rdr.drewN {s : ByteArray} {a : Int} {rb : Nat} {w : World} (h : Rdr s a rb w) (n : Nat) : Rdr s a rb (w.drewN n) := h
theorem Rdr.move {s : ByteArray} {a : Int} {rb : Nat} {w : World} (h : Rdr s a rb w) (v : Int) : Rdr s v rb (w.setCell ⟨rb, 1, none⟩ (.int .i64 v)) := by
  have := Blk.set h 1 (.int .i64 v)
  simpa [Rdr] using this
theorem Rdr.gb {s : ByteArray} {a : Int} {rb : Nat} {w w' : World} (h : Rdr s a rb w) {r : Option Nat} (g : w.grownBy w' r) (n : some rb ≠ r) : Rdr s a rb w' := (g.block rb h.lt n).trans h
theorem Rdr.max {s : ByteArray} {a : Int} {rb : Nat} {w w' : World} (h : Rdr s a rb w) (hm : HasMax w) (g : w.grownBy w' (some rb)) : HasMax w' := hm.gb g (Blk.cell h 0)
theorem rdrS {w wx : World} {b c : Nat} {t u : TypeId} {x0 x1 : Value} {cs : Array Value} (h : In w [(c, cs, u), (b, #[x0, x1], t)] wx) :
    wx.cell? ⟨b, 0, none⟩ = some x0 ∧ wx.cell? ⟨b, 1, none⟩ = some x1 :=
  ⟨(h.mem (List.mem_cons_of_mem _ List.mem_cons_self)).cell 0, (h.mem (List.mem_cons_of_mem _ List.mem_cons_self)).cell 1⟩

set_option maxRecDepth 100000 in
set_option maxHeartbeats 4000000 in
theorem rtoken_any (s : ByteArray) (a : Int) (rb : Nat) (w : World) (hs : s.size ≤ 4294967295) (hm : HasMax w) (hr : Rdr s a rb w) (T : Int × Lx.Tok) (hT : T = tokX s.data.toList a) :
    Calls Tryz.prog 71 #[.pointer (some ⟨rb, 0, none⟩)] w fun e w' =>
      e = .returned (.tuple #[tkV T.2, .int .i64 T.1]) ∧ Rdr s (if T.1 = 0 then (T.2.to : Int) else a) rb w' ∧ w.grownBy w' (some rb) := by
  obtain ⟨U, hU⟩ : ∃ U, U = Lx.nextV s.data.toList a := ⟨_, rfl⟩
  unfold tokX at hT
  rw [← hU] at hT
  obtain ⟨er, kd, fv, st, wh, fr, tq⟩ := U
  have HT := Lib.hid hT
  have HU := Lib.hid hU
  have HM := Lib.hid hm
  have HR := Lib.hid hr
  have hrb := hr.lt
  have HX := Lib.hid ((In.start w).cons hr)
  have HX1 := Lib.hid (In.fresh HX.out #[.int .i64 0, .int .i64 0, .string ⟨#[]⟩, .bool false, .int .i64 0, .int .i64 0] 123)
  clear HX
  have HX := HX1
  clear HX1
  have rf := Blk.free hr
  have h0 := Blk.cell hr 0
  have h1 := Blk.cell hr 1
  simp at h0 h1
  have ne0 : w.heap.size ≠ rb := by omega
  have ne1 : w.heap.size + 1 ≠ rb := by omega
  have HW := Lib.hid (show w.heap.size ≤ w.heap.size + 1 from Nat.le_succ _)
  have NT := Lib.hid (show ∀ x ∈ [((w.heap.size : Nat), (#[.int .i64 0, .int .i64 0, .string ⟨#[]⟩, .bool false, .int .i64 0, .int .i64 0] : Array Value), (123 : TypeId)), ((rb : Nat), (#[.string s, .int .i64 a] : Array Value), (93 : TypeId))], x.1 ≠ w.heap.size + 1 from fun x hx => by
    simp at hx
    rcases hx with rfl | rfl <;> simp <;> omega)
  have CN := Lib.hid (show ∀ wx, Kept w wx → Calls Tryz.prog 95 #[.string s, .int .i64 a] wx fun e w' => e = .returned (.tuple #[.agg #[.int .i64 kd, .int .i64 fv, .string ⟨st.toArray⟩, .bool wh, .int .i64 fr, .int .i64 tq], .int .i64 er]) ∧ Kept wx w' from
    fun wx hk => Next_any s a wx (by omega) (hm.kept hk) _ hU)
  clear hT hm hr hU
  by_cases he : er = 0
  · subst he
    by_cases hkd : kd = 0
    · subst hkd
      have HV := Lib.hid (show T = (4, Lx.zero) by rw [HT.out]; rfl)
      clear HT
      obtain ⟨Te, Tt⟩ := T
      obtain ⟨rfl, rfl⟩ := Prod.mk.inj HV.out
      go_enter Tryz.func71, Tryz.ntmps71
      go_wp2_with fail
      go_region_held3 (fun w' => w'.cell? ⟨rb, 0, none⟩ = some (.string s) ∧ w'.cell? ⟨rb, 1, none⟩ = some (.int .i64 a)) (go_keep)
        (first | (go_at_call 95; (first | (with_reducible refine (CN.out _ (In.k HX.out)).mono ?_) | (with_reducible refine (CN.out _ (In.k HX.out.drew)).mono ?_) | (with_reducible refine (CN.out _ (In.k (HX.out.alloc _))).mono ?_) | (with_reducible refine (CN.out _ (In.k (HX.out.alloc _).drew)).mono ?_)); rintro e wn ⟨rfl, kn⟩; (first | ((with_reducible have HZ := Lib.hid (Blk.kept (Blk.drew (Blk.fresh' (b := w.heap.size + 1) #[.int .i64 0, .int .i64 0, .string ⟨#[]⟩, .bool false, .int .i64 0, .int .i64 0] 123 (by simp))) kn)); (with_reducible have HX := Lib.hid (In.kept (In.drew (In.alloc HX.out (.cells #[.int .i64 0, .int .i64 0, .string ⟨#[]⟩, .bool false, .int .i64 0, .int .i64 0] 123 (0, 0)))) kn)); obtain ⟨y0, y1, y2, y3, y4, y5⟩ := HZ.out.cells6; have yf := HZ.out.free; obtain ⟨r0, r1, r2, r3, r4, r5⟩ := (HX.out.mem List.mem_cons_self).cells6; have rz := (HX.out.mem List.mem_cons_self).free; have hz := (HX.out.mem List.mem_cons_self).lt; obtain ⟨c0, c1⟩ := rdrS HX.out) | ((with_reducible have HX := Lib.hid (In.kept HX.out kn)); obtain ⟨r0, r1, r2, r3, r4, r5⟩ := (HX.out.mem List.mem_cons_self).cells6; have rz := (HX.out.mem List.mem_cons_self).free; have hz := (HX.out.mem List.mem_cons_self).lt; obtain ⟨c0, c1⟩ := rdrS HX.out) | ((with_reducible have HX := Lib.hid (In.kept (In.drew HX.out) kn)); obtain ⟨r0, r1, r2, r3, r4, r5⟩ := (HX.out.mem List.mem_cons_self).cells6; have rz := (HX.out.mem List.mem_cons_self).free; have hz := (HX.out.mem List.mem_cons_self).lt; obtain ⟨c0, c1⟩ := rdrS HX.out))))
      all_goals
        have HR3 := Lib.hid (show Rdr s a rb wn from HX.out.mem (List.mem_cons_of_mem _ List.mem_cons_self))
        have rfn := Blk.free HR3.out
        have rbz := HR3.out.lt
        have HG3 := Lib.hid (gb_kept (In.k HX.out) (some rb))
        go_wp2_with fail
        refine bodyPost_ret (v := .tuple #[.agg #[.int .i64 0, .int .i64 0, .string ⟨#[]⟩, .bool false, .int .i64 0, .int .i64 0], .int .i64 4]) ?_ rfl ⟨by rfl, ?_, ?_⟩
        · simp [results, Tryz.results71, go_sem, r0, r1, r2, r3, r4, r5, hz]
        · repeat (with_reducible first | exact HR3.out | refine Rdr.drew ?_ | refine Rdr.alloc ?_ _ | refine Rdr.other ?_ (by first | omega | exact Ne.symm ‹_›) _)
        · repeat (with_reducible first | exact HG3.out | refine gb_own ?_ _ _ | refine gb_drew ?_ | refine gb_alloc ?_ _ | refine gb_fresh ?_ (by first | exact Nat.le_refl _ | exact Nat.le_succ _) _)
    · have HV := Lib.hid (show T = (0, ⟨kd, fv, st, wh, fr, tq⟩) by rw [HT.out, if_pos rfl, if_neg hkd])
      have hkb : (kd == 0) = false := by simpa using hkd
      clear HT hkd
      obtain ⟨Te, Tt⟩ := T
      obtain ⟨rfl, rfl⟩ := Prod.mk.inj HV.out
      rw [if_pos rfl]
      go_enter Tryz.func71, Tryz.ntmps71
      go_wp2_with fail
      go_region_held3 (fun w' => w'.cell? ⟨rb, 0, none⟩ = some (.string s) ∧ w'.cell? ⟨rb, 1, none⟩ = some (.int .i64 a)) (go_keep)
        (first | (go_at_call 95; (first | (with_reducible refine (CN.out _ (In.k HX.out)).mono ?_) | (with_reducible refine (CN.out _ (In.k HX.out.drew)).mono ?_) | (with_reducible refine (CN.out _ (In.k (HX.out.alloc _))).mono ?_) | (with_reducible refine (CN.out _ (In.k (HX.out.alloc _).drew)).mono ?_)); rintro e wn ⟨rfl, kn⟩; (first | ((with_reducible have HZ := Lib.hid (Blk.kept (Blk.drew (Blk.fresh' (b := w.heap.size + 1) #[.int .i64 0, .int .i64 0, .string ⟨#[]⟩, .bool false, .int .i64 0, .int .i64 0] 123 (by simp))) kn)); (with_reducible have HX := Lib.hid (In.kept (In.drew (In.alloc HX.out (.cells #[.int .i64 0, .int .i64 0, .string ⟨#[]⟩, .bool false, .int .i64 0, .int .i64 0] 123 (0, 0)))) kn)); obtain ⟨y0, y1, y2, y3, y4, y5⟩ := HZ.out.cells6; have yf := HZ.out.free; obtain ⟨r0, r1, r2, r3, r4, r5⟩ := (HX.out.mem List.mem_cons_self).cells6; have rz := (HX.out.mem List.mem_cons_self).free; have hz := (HX.out.mem List.mem_cons_self).lt; obtain ⟨c0, c1⟩ := rdrS HX.out) | ((with_reducible have HX := Lib.hid (In.kept HX.out kn)); obtain ⟨r0, r1, r2, r3, r4, r5⟩ := (HX.out.mem List.mem_cons_self).cells6; have rz := (HX.out.mem List.mem_cons_self).free; have hz := (HX.out.mem List.mem_cons_self).lt; obtain ⟨c0, c1⟩ := rdrS HX.out) | ((with_reducible have HX := Lib.hid (In.kept (In.drew HX.out) kn)); obtain ⟨r0, r1, r2, r3, r4, r5⟩ := (HX.out.mem List.mem_cons_self).cells6; have rz := (HX.out.mem List.mem_cons_self).free; have hz := (HX.out.mem List.mem_cons_self).lt; obtain ⟨c0, c1⟩ := rdrS HX.out))))
      all_goals
        have HR3 := Lib.hid (show Rdr s a rb wn from HX.out.mem (List.mem_cons_of_mem _ List.mem_cons_self))
        have rfn := Blk.free HR3.out
        have rbz := HR3.out.lt
        have HG3 := Lib.hid (gb_kept (In.k HX.out) (some rb))
        go_wp2_with fail
        refine bodyPost_ret (v := .tuple #[.agg #[.int .i64 kd, .int .i64 fv, .string ⟨st.toArray⟩, .bool wh, .int .i64 fr, .int .i64 tq], .int .i64 0]) ?_ rfl ⟨by rfl, ?_, ?_⟩
        · simp [results, Tryz.results71, go_sem, r0, r1, r2, r3, r4, r5, hz]
        · repeat (with_reducible first | exact HR3.out | refine Rdr.move (a := a) ?_ _ | refine Rdr.drew ?_ | refine Rdr.alloc ?_ _ | refine Rdr.other ?_ (by first | omega | exact Ne.symm ‹_›) _)
        · repeat (with_reducible first | exact HG3.out | refine gb_own ?_ _ _ | refine gb_drew ?_ | refine gb_alloc ?_ _ | refine gb_fresh ?_ (by first | exact Nat.le_refl _ | exact Nat.le_succ _) _)
  · have HZT := Lib.hid (show (⟨kd, fv, st, wh, fr, tq⟩ : Lx.Tok) = Lx.zero by
      have := Lx.next_zero_of s.data.toList a (by rw [← HU.out]; exact he)
      rw [← HU.out] at this; exact this)
    have HV := Lib.hid (show T = (er, Lx.zero) by rw [HT.out, if_neg he])
    have hne : (er != 0) = true := by simpa using he
    have hnb : (er == 0) = false := by simpa using he
    have HE := Lib.hid he
    have z0 : kd = 0 := congrArg Lx.Tok.kind HZT.out
    have z1 : fv = 0 := congrArg Lx.Tok.f HZT.out
    have z2 : st = [] := congrArg Lx.Tok.s HZT.out
    have z3 : wh = false := congrArg Lx.Tok.whole HZT.out
    have z4 : fr = 0 := congrArg Lx.Tok.frm HZT.out
    have z5 : tq = 0 := congrArg Lx.Tok.to HZT.out
    clear HZT HT
    subst z0 z1 z2 z3 z4 z5
    obtain ⟨Te, Tt⟩ := T
    obtain ⟨e1, e2⟩ := Prod.mk.inj HV.out
    subst e1 e2
    clear he
    go_enter Tryz.func71, Tryz.ntmps71
    go_wp2_with fail
    go_region_held3 (fun w' => w'.cell? ⟨rb, 0, none⟩ = some (.string s) ∧ w'.cell? ⟨rb, 1, none⟩ = some (.int .i64 a)) (go_keep)
      (first | (go_at_call 95; (first | (with_reducible refine (CN.out _ (In.k HX.out)).mono ?_) | (with_reducible refine (CN.out _ (In.k HX.out.drew)).mono ?_) | (with_reducible refine (CN.out _ (In.k (HX.out.alloc _))).mono ?_) | (with_reducible refine (CN.out _ (In.k (HX.out.alloc _).drew)).mono ?_)); rintro e wn ⟨rfl, kn⟩; (first | ((with_reducible have HZ := Lib.hid (Blk.kept (Blk.drew (Blk.fresh' (b := w.heap.size + 1) #[.int .i64 0, .int .i64 0, .string ⟨#[]⟩, .bool false, .int .i64 0, .int .i64 0] 123 (by simp))) kn)); (with_reducible have HX := Lib.hid (In.kept (In.drew (In.alloc HX.out (.cells #[.int .i64 0, .int .i64 0, .string ⟨#[]⟩, .bool false, .int .i64 0, .int .i64 0] 123 (0, 0)))) kn)); obtain ⟨y0, y1, y2, y3, y4, y5⟩ := HZ.out.cells6; have yf := HZ.out.free; obtain ⟨r0, r1, r2, r3, r4, r5⟩ := (HX.out.mem List.mem_cons_self).cells6; have rz := (HX.out.mem List.mem_cons_self).free; have hz := (HX.out.mem List.mem_cons_self).lt; obtain ⟨c0, c1⟩ := rdrS HX.out) | ((with_reducible have HX := Lib.hid (In.kept HX.out kn)); obtain ⟨r0, r1, r2, r3, r4, r5⟩ := (HX.out.mem List.mem_cons_self).cells6; have rz := (HX.out.mem List.mem_cons_self).free; have hz := (HX.out.mem List.mem_cons_self).lt; obtain ⟨c0, c1⟩ := rdrS HX.out) | ((with_reducible have HX := Lib.hid (In.kept (In.drew HX.out) kn)); obtain ⟨r0, r1, r2, r3, r4, r5⟩ := (HX.out.mem List.mem_cons_self).cells6; have rz := (HX.out.mem List.mem_cons_self).free; have hz := (HX.out.mem List.mem_cons_self).lt; obtain ⟨c0, c1⟩ := rdrS HX.out))))
    all_goals
      have HR3 := Lib.hid (show Rdr s a rb wn from HX.out.mem (List.mem_cons_of_mem _ List.mem_cons_self))
      have rfn := Blk.free HR3.out
      have rbz := HR3.out.lt
      have HG3 := Lib.hid (gb_kept (In.k HX.out) (some rb))
      go_wp2_with fail
      refine bodyPost_ret (v := .tuple #[.agg #[.int .i64 0, .int .i64 0, .string ⟨#[]⟩, .bool false, .int .i64 0, .int .i64 0], .int .i64 Te]) ?_ rfl ⟨by rfl, ?_, ?_⟩
      · simp [results, Tryz.results71, go_sem, r0, r1, r2, r3, r4, r5, hz]
      · repeat (with_reducible first | exact HR3.out | refine Rdr.drew ?_ | refine Rdr.alloc ?_ _ | refine Rdr.other ?_ (by first | omega | exact Ne.symm ‹_›) _)
      · repeat (with_reducible first | exact HG3.out | refine gb_own ?_ _ _ | refine gb_drew ?_ | refine gb_alloc ?_ _ | refine gb_fresh ?_ (by first | exact Nat.le_refl _ | exact Nat.le_succ _) _)

end Go.Proofs.YtoablpaehhjchaaGreatDoor

namespace Go.Proofs.YtoablpaehhjchaaGreatDoor
open Go.RowKit Rx
set_option linter.unusedSimpArgs false
set_option linter.unusedVariables false

theorem ret_bool2 {a b : Bool} (h : a = b) : Ending.returned (.bool a) = .returned (.bool b) := by rw [h]
theorem xisWord_any (t : Lx.Tok) (l : List UInt8) (w : World) :
    Calls Tryz.prog 180 #[tkV t, .string ⟨l.toArray⟩] w fun e w' => e = .returned (.bool (isWd t l)) ∧ Kept w w' := by
  obtain ⟨k, f, s, wh, fr, tq⟩ := t
  have HV := Lib.hid (show isWd ⟨k, f, s, wh, fr, tq⟩ l = (k == 8 && s == l) from rfl)
  unfold tkV
  simp only []
  cases h1 : (k == 8)
  all_goals
    go_enter Tryz.func180, Tryz.ntmps180
    go_wp2_with fail
    go_ret
    exact ⟨ret_bool2 (by rw [HV.out, h1]; first | done | rfl | simp), (Kept.refl w).alloc _ _⟩
theorem isWhole_any (t : Lx.Tok) (w : World) :
    Calls Tryz.prog 72 #[tkV t] w fun e w' => e = .returned (.bool (isWh t)) ∧ Kept w w' := by
  obtain ⟨k, f, s, wh, fr, tq⟩ := t
  have HV := Lib.hid (show isWh ⟨k, f, s, wh, fr, tq⟩ = (k == 1 && wh && decide (0 ≤ f)) from rfl)
  unfold tkV
  simp only []
  cases h1 : (k == 1)
  · go_enter Tryz.func72, Tryz.ntmps72
    go_wp2_with fail
    go_ret
    exact ⟨ret_bool2 (by rw [HV.out, h1]; first | done | rfl | simp), (Kept.refl w).alloc _ _⟩
  · cases wh
    · go_enter Tryz.func72, Tryz.ntmps72
      go_wp2_with fail
      go_ret
      exact ⟨ret_bool2 (by rw [HV.out, h1]; first | done | rfl | simp), (Kept.refl w).alloc _ _⟩
    · go_enter Tryz.func72, Tryz.ntmps72
      go_wp2_with fail
      go_ret
      exact ⟨ret_bool2 (by rw [HV.out, h1]; first | done | rfl | simp), (Kept.refl w).alloc _ _⟩
theorem wholeOf_any (t : Lx.Tok) (w : World) (h0 : -2147483648 ≤ t.f) (h1 : t.f ≤ 2147483648) :
    Calls Tryz.prog 73 #[tkV t] w fun e w' => e = .returned (.int .i64 (t.f.tdiv 1000)) ∧ Kept w w' := by
  obtain ⟨k, f, s, wh, fr, tq⟩ := t
  simp only [] at h0 h1
  have hq : -2147483648 ≤ f.tdiv 1000 ∧ f.tdiv 1000 ≤ 2147483648 := by
    have := Int.natAbs_tdiv_le_natAbs f 1000
    omega
  have i1 : IntKind.i64.wrap (f.tdiv 1000) = f.tdiv 1000 := IntWalk.i64_in _ (by omega)
  unfold tkV
  simp only []
  go_enter Tryz.func73, Tryz.ntmps73
  go_wp2_with fail
  go_ret
  exact ⟨by first | rfl | (congr 2), (Kept.refl w).alloc _ _⟩
theorem tokX_f (l : List UInt8) (a : Int) : -2147483648 ≤ (tokX l a).2.f ∧ (tokX l a).2.f ≤ 2147483648 := by
  have := Lx.next_len l a
  unfold tokX
  split
  · split
    · exact ⟨show (-2147483648 : Int) ≤ 0 by decide, show (0 : Int) ≤ 2147483648 by decide⟩
    · exact ⟨this.1, this.2.1⟩
  · exact ⟨show (-2147483648 : Int) ≤ 0 by decide, show (0 : Int) ≤ 2147483648 by decide⟩

set_option maxRecDepth 100000 in
set_option maxHeartbeats 2000000 in
theorem whole_any (s : ByteArray) (a : Int) (rb : Nat) (w : World) (hs : s.size ≤ 4294967295) (hm : HasMax w) (hr : Rdr s a rb w) (X : Int × Int × Nat) (hX : X = wholeX s.data.toList a) :
    Calls Tryz.prog 43 #[.pointer (some ⟨rb, 0, none⟩)] w fun e w' =>
      e = .returned (.tuple #[.int .i64 X.2.1, .int .i64 X.1]) ∧ (∃ a' : Int, (X.1 = 0 → a' = X.2.2) ∧ Rdr s a' rb w') ∧ w.grownBy w' (some rb) := by
  have hf := tokX_f s.data.toList a
  obtain ⟨T, hT⟩ : ∃ T, T = tokX s.data.toList a := ⟨_, rfl⟩
  rw [← hT] at hf
  have CT := Lib.hid (rtoken_any s a rb w hs hm hr T hT)
  have HX := Lib.hid (show X = if T.1 = 0 then (if isWh T.2 then (0, T.2.f.tdiv 1000, T.2.to) else (3, 0, 0)) else (T.1, 0, 0) by rw [hX, wholeX, ← hT])
  clear hX hm hr hT
  obtain ⟨te, kd, f, st, wh, fr, tq⟩ := T
  simp only [] at hf
  have CW := Lib.hid (fun W => isWhole_any ⟨kd, f, st, wh, fr, tq⟩ W)
  have CV := Lib.hid (fun W => wholeOf_any ⟨kd, f, st, wh, fr, tq⟩ W hf.1 hf.2)
  unfold tkV at CT CW CV
  simp only [] at CT CW CV HX
  clear hf
  by_cases he : te = 0
  · subst he
    cases hw : isWh ⟨kd, f, st, wh, fr, tq⟩ with
    | true =>
      have HV := Lib.hid (show X = (0, f.tdiv 1000, tq) by rw [HX.out, if_pos rfl, if_pos hw])
      rw [hw] at CW
      obtain ⟨n, hn⟩ : ∃ n, n = f.tdiv 1000 := ⟨_, rfl⟩
      rw [← hn] at HV CV
      clear hw HX hn
      go_enter Tryz.func43, Tryz.ntmps43
      go_wp2_with (first | (go_at_call 71; refine CT.out.mono ?_; rintro e w1 ⟨rfl, hr1, hg1⟩; have R1 := Lib.hid hr1; have G1 := Lib.hid hg1; have B1 := Lib.hid (Blk.fresh w1 #[.int .i64 kd, .int .i64 f, .string ⟨st.toArray⟩, .bool wh, .int .i64 fr, .int .i64 tq] 123); clear hr1 hg1) | (go_at_call 72; refine (CW.out _).mono ?_; rintro e w2 ⟨rfl, hk2⟩; obtain ⟨b0, b1, b2, b3, b4, b5⟩ := (B1.out.kept hk2).cells6; have K2 := Lib.hid hk2; clear hk2) | (go_at_call 73; refine (CV.out _).mono ?_; rintro e w3 ⟨rfl, hk3⟩))
      go_ret2
      have KK := ((Kept.refl w1).allocO _).trans (K2.out.trans hk3)
      refine ⟨by rw [HV.out]; first | done | rfl, ⟨(tq : Int), fun _ => by rw [HV.out], by have h := R1.out; rw [if_pos trivial] at h; exact h.kept KK⟩, gb_thenK G1.out KK⟩
    | false =>
      have HV := Lib.hid (show X = (3, 0, 0) by rw [HX.out, if_pos rfl, hw]; rfl)
      rw [hw] at CW
      clear hw HX
      go_enter Tryz.func43, Tryz.ntmps43
      go_wp2_with (first | (go_at_call 71; refine CT.out.mono ?_; rintro e w1 ⟨rfl, hr1, hg1⟩; have R1 := Lib.hid hr1; have G1 := Lib.hid hg1; clear hr1 hg1) | (go_at_call 72; refine (CW.out _).mono ?_; rintro e w2 ⟨rfl, hk2⟩))
      go_ret2
      have KK := ((Kept.refl w1).allocO _).trans hk2
      refine ⟨by rw [HV.out]; first | done | rfl, ⟨_, fun h => by rw [HV.out] at h; exact absurd h (by decide), R1.out.kept KK⟩, gb_thenK G1.out KK⟩
  · have HV := Lib.hid (show X = (te, 0, 0) by rw [HX.out, if_neg he])
    have hne : (te != 0) = true := by simpa using he
    have HE := Lib.hid he
    clear he HX
    go_enter Tryz.func43, Tryz.ntmps43
    go_wp2_with (go_at_call 71; refine CT.out.mono ?_; rintro e w1 ⟨rfl, hr1, hg1⟩; have R1 := Lib.hid hr1; have G1 := Lib.hid hg1; clear hr1 hg1)
    go_ret2
    refine ⟨by rw [HV.out]; first | done | rfl, ⟨_, fun h => by rw [HV.out] at h; exact absurd h HE.out, R1.out.kept ((Kept.refl w1).allocO _)⟩, gb_thenK G1.out ((Kept.refl w1).allocO _)⟩

theorem gbOther {B b : Nat} {w w' : World} {cs : Array Value} {t : TypeId} (h : Blk w b cs t) (g : w.grownBy w' (some B)) (n : b ≠ B) : Blk w' b cs t := (g.block b h.lt (by simpa using n)).trans h

set_option maxRecDepth 100000 in
set_option maxHeartbeats 4000000 in
theorem entry_any (s : ByteArray) (a : Int) (n : Int) (rb : Nat) (w : World) (hs : s.size ≤ 4294967295) (hm : HasMax w) (hr : Rdr s a rb w) (X : Int × Xent × Nat) (hX : X = entX s.data.toList a n) :
    Calls Tryz.prog 207 #[.pointer (some ⟨rb, 0, none⟩), .int .i64 n] w fun e w' =>
      e = .returned (.tuple #[xentV X.2.1, .int .i64 X.1]) ∧ (∃ a' : Int, (X.1 = 0 → a' = X.2.2) ∧ Rdr s a' rb w') ∧ w.grownBy w' (some rb) := by
  have hrb := hr.lt
  have KZ := Lib.hid ((Kept.refl w).alloc #[.int .i64 0, .int .i64 0, .int .i64 0, .bool false] 65)
  have BZ := Lib.hid (Blk.fresh w #[.int .i64 0, .int .i64 0, .int .i64 0, .bool false] 65)
  have nez : w.heap.size ≠ rb := by omega
  have RZ := Lib.hid (hr.kept KZ.out)
  have MZ := Lib.hid (hm.kept KZ.out)
  obtain ⟨P, hP⟩ : ∃ P, P = wholeX s.data.toList a := ⟨_, rfl⟩
  have CP := Lib.hid (whole_any s a rb _ hs MZ.out RZ.out P hP)
  obtain ⟨Q, hQ⟩ : ∃ Q, Q = wholeX s.data.toList P.2.2 := ⟨_, rfl⟩
  obtain ⟨U, hU⟩ : ∃ U, U = tokX s.data.toList Q.2.2 := ⟨_, rfl⟩
  have CQ := Lib.hid (fun W hm hr => whole_any s P.2.2 rb W hs hm hr Q hQ)
  have CU := Lib.hid (fun W hm hr => rtoken_any s Q.2.2 rb W hs hm hr U hU)
  have CI := Lib.hid (fun l W => xisWord_any U.2 l W)
  have HX := Lib.hid (show X = if P.1 = 0 then (if Q.1 = 0 then entT U n P.2.1 Q.2.1 else (Q.1, zeroE, 0)) else (P.1, zeroE, 0) by rw [hX, entX, ← hP, ← hQ, ← hU])
  clear hX hP hQ hU hm hr
  obtain ⟨pe, pv, pt⟩ := P
  obtain ⟨qe, qv, qt⟩ := Q
  obtain ⟨ue, kd, f, st, wh, fr, tq⟩ := U
  unfold tkV at CU CI
  simp only [] at CP CQ CU CI HX
  by_cases h1 : pe = 0
  · subst h1
    by_cases h2 : qe = 0
    · subst h2
      by_cases h3 : ue = 0
      · subst h3
        have HY := Lib.hid (show X = if isWd ⟨kd, f, st, wh, fr, tq⟩ [110] || isWd ⟨kd, f, st, wh, fr, tq⟩ [102] then (0, ⟨n, pv, qv, st == [110]⟩, tq) else (3, zeroE, 0) by rw [HX.out]; rfl)
        have C1 := Lib.hid (CI.out [110])
        have C2 := Lib.hid (CI.out [102])
        clear HX CI
        have TAIL : ∀ (X0 : Int × Xent × Nat), X = X0 → X0 = (0, ⟨n, pv, qv, st == [110]⟩, tq) → ∀ w1, Rdr s tq rb w1 → X = (0, ⟨n, pv, qv, st == [110]⟩, tq) := fun X0 h1 h2 _ _ => h1.trans h2
        cases w1 : isWd ⟨kd, f, st, wh, fr, tq⟩ [110] with
        | true =>
          rw [w1] at C1
          have HV := Lib.hid (show X = (0, ⟨n, pv, qv, st == [110]⟩, tq) by rw [HY.out, w1]; rfl)
          clear HY w1 TAIL
          go_enter Tryz.func207, Tryz.ntmps207
          go_wp2_with (first
            | (go_at_call 43; first | (with_reducible refine CP.out.mono ?_; rintro e w1 ⟨rfl, ⟨a1, ha1, hr1⟩, hg1⟩; obtain rfl := ha1 (by trivial); have R1 := Lib.hid hr1; have G1 := Lib.hid hg1; have M1 := Lib.hid (RZ.out.max MZ.out hg1); have Z1 := Lib.hid (gbOther BZ.out hg1 nez); clear hr1 hg1 ha1) | (refine (CQ.out _ M1.out R1.out).mono ?_; rintro e w2 ⟨rfl, ⟨a2, ha2, hr2⟩, hg2⟩; obtain rfl := ha2 (by trivial); have R2 := Lib.hid hr2; have G2 := Lib.hid (gb_trans G1.out hg2); have M2 := Lib.hid (R1.out.max M1.out hg2); have Z2 := Lib.hid (gbOther Z1.out hg2 nez); clear hr2 hg2 ha2))
            | (go_at_call 71; refine (CU.out _ M2.out R2.out).mono ?_; rintro e w3 ⟨rfl, hr3, hg3⟩; have R3 := Lib.hid hr3; have G3 := Lib.hid (gb_trans G2.out hg3); have Z3 := Lib.hid (gbOther Z2.out hg3 nez); have B3 := Lib.hid (Blk.fresh w3 #[.int .i64 kd, .int .i64 f, .string ⟨st.toArray⟩, .bool wh, .int .i64 fr, .int .i64 tq] 123); clear hr3 hg3)
            | (go_at_call 180; refine (C1.out _).mono ?_; rintro e w4 ⟨rfl, hk4⟩; have K4 := Lib.hid (((Kept.refl w3).allocO (.cells #[.int .i64 kd, .int .i64 f, .string ⟨st.toArray⟩, .bool wh, .int .i64 fr, .int .i64 tq] 123 (0, 0))).trans hk4); obtain ⟨b0, b1, b2, b3, b4, b5⟩ := (B3.out.kept hk4).cells6; have Z4 := Lib.hid (Z3.out.kept K4.out); obtain ⟨z0, z1, z2, z3⟩ := Z4.out.cells4; have zf := Z4.out.free; have zl := Z4.out.lt; clear hk4))
          have R5 := Lib.hid (show Rdr s tq rb w4 from by have h := R3.out; rw [if_pos (by trivial)] at h; exact h.kept K4.out)
          have G5 := Lib.hid (show w.grownBy w4 (some rb) from gb_trans (gb_kept KZ.out _) (gb_thenK G3.out K4.out))
          clear K4
          refine bodyPost_ret (v := .tuple #[.agg #[.int .i64 n, .int .i64 pv, .int .i64 qv, .bool (st == [110])], .int .i64 0]) ?_ rfl ⟨by rw [HV.out]; rfl, ⟨(tq : Int), fun _ => by rw [HV.out], ?_⟩, ?_⟩
          · simp [results, Tryz.results207, go_sem, z0, z1, z2, z3, zl, zf]
          · repeat (with_reducible first | exact R5.out | refine Rdr.drew ?_ | refine Rdr.alloc ?_ _ | refine Rdr.other ?_ (by first | omega | exact Ne.symm ‹_›) _)
          · repeat (with_reducible first | exact G5.out | refine gb_drew ?_ | refine gb_alloc ?_ _ | refine gb_fresh ?_ (Nat.le_refl _) _)
        | false =>
          rw [w1] at C1
          cases w2 : isWd ⟨kd, f, st, wh, fr, tq⟩ [102] with
          | true =>
            rw [w2] at C2
            have HV := Lib.hid (show X = (0, ⟨n, pv, qv, st == [110]⟩, tq) by rw [HY.out, w1, w2]; rfl)
            clear HY w1 w2 TAIL
            go_enter Tryz.func207, Tryz.ntmps207
            go_wp2_with (first | (go_at_call 43; first | (with_reducible refine CP.out.mono ?_; rintro e w1 ⟨rfl, ⟨a1, ha1, hr1⟩, hg1⟩; obtain rfl := ha1 (by trivial); have R1 := Lib.hid hr1; have G1 := Lib.hid hg1; have M1 := Lib.hid (RZ.out.max MZ.out hg1); have Z1 := Lib.hid (gbOther BZ.out hg1 nez); clear hr1 hg1 ha1) | (refine (CQ.out _ M1.out R1.out).mono ?_; rintro e w2 ⟨rfl, ⟨a2, ha2, hr2⟩, hg2⟩; obtain rfl := ha2 (by trivial); have R2 := Lib.hid hr2; have G2 := Lib.hid (gb_trans G1.out hg2); have M2 := Lib.hid (R1.out.max M1.out hg2); have Z2 := Lib.hid (gbOther Z1.out hg2 nez); clear hr2 hg2 ha2)) | (go_at_call 71; refine (CU.out _ M2.out R2.out).mono ?_; rintro e w3 ⟨rfl, hr3, hg3⟩; have R3 := Lib.hid hr3; have G3 := Lib.hid (gb_trans G2.out hg3); have Z3 := Lib.hid (gbOther Z2.out hg3 nez); have B3 := Lib.hid (Blk.fresh w3 #[.int .i64 kd, .int .i64 f, .string ⟨st.toArray⟩, .bool wh, .int .i64 fr, .int .i64 tq] 123); clear hr3 hg3) | (go_at_call 180; with_reducible refine (C1.out _).mono ?_; rintro e w4 ⟨rfl, hk4⟩; have K4 := Lib.hid (((Kept.refl w3).allocO (.cells #[.int .i64 kd, .int .i64 f, .string ⟨st.toArray⟩, .bool wh, .int .i64 fr, .int .i64 tq] 123 (0, 0))).trans hk4); have B4 := Lib.hid (B3.out.kept hk4); obtain ⟨b0, b1, b2, b3, b4, b5⟩ := B4.out.cells6; clear hk4) | (go_at_call 180; with_reducible refine (C2.out _).mono ?_; rintro e w5 ⟨rfl, hk5⟩; have K5 := Lib.hid (K4.out.trans hk5); obtain ⟨d0, d1, d2, d3, d4, d5⟩ := (B4.out.kept hk5).cells6; have Z4 := Lib.hid (Z3.out.kept K5.out); obtain ⟨z0, z1, z2, z3⟩ := Z4.out.cells4; have zf := Z4.out.free; have zl := Z4.out.lt; clear hk5))
            have R5 := Lib.hid (show Rdr s tq rb w5 from by have h := R3.out; rw [if_pos (by trivial)] at h; exact h.kept K5.out)
            have G5 := Lib.hid (show w.grownBy w5 (some rb) from gb_trans (gb_kept KZ.out _) (gb_thenK G3.out K5.out))
            clear K4 K5
            refine bodyPost_ret (v := .tuple #[.agg #[.int .i64 n, .int .i64 pv, .int .i64 qv, .bool (st == [110])], .int .i64 0]) ?_ rfl ⟨by rw [HV.out]; rfl, ⟨(tq : Int), fun _ => by rw [HV.out], ?_⟩, ?_⟩
            · simp [results, Tryz.results207, go_sem, z0, z1, z2, z3, zl, zf]
            · repeat (with_reducible first | exact R5.out | refine Rdr.drew ?_ | refine Rdr.alloc ?_ _ | refine Rdr.other ?_ (by first | omega | exact Ne.symm ‹_›) _)
            · repeat (with_reducible first | exact G5.out | refine gb_drew ?_ | refine gb_alloc ?_ _ | refine gb_fresh ?_ (Nat.le_refl _) _)
          | false =>
            rw [w2] at C2
            have HV := Lib.hid (show X = (3, zeroE, 0) by rw [HY.out, w1, w2]; rfl)
            clear HY w1 w2 TAIL
            go_enter Tryz.func207, Tryz.ntmps207
            go_wp2_with (first | (go_at_call 43; first | (with_reducible refine CP.out.mono ?_; rintro e w1 ⟨rfl, ⟨a1, ha1, hr1⟩, hg1⟩; obtain rfl := ha1 (by trivial); have R1 := Lib.hid hr1; have G1 := Lib.hid hg1; have M1 := Lib.hid (RZ.out.max MZ.out hg1); have Z1 := Lib.hid (gbOther BZ.out hg1 nez); clear hr1 hg1 ha1) | (refine (CQ.out _ M1.out R1.out).mono ?_; rintro e w2 ⟨rfl, ⟨a2, ha2, hr2⟩, hg2⟩; obtain rfl := ha2 (by trivial); have R2 := Lib.hid hr2; have G2 := Lib.hid (gb_trans G1.out hg2); have M2 := Lib.hid (R1.out.max M1.out hg2); have Z2 := Lib.hid (gbOther Z1.out hg2 nez); clear hr2 hg2 ha2)) | (go_at_call 71; refine (CU.out _ M2.out R2.out).mono ?_; rintro e w3 ⟨rfl, hr3, hg3⟩; have R3 := Lib.hid hr3; have G3 := Lib.hid (gb_trans G2.out hg3); have Z3 := Lib.hid (gbOther Z2.out hg3 nez); have B3 := Lib.hid (Blk.fresh w3 #[.int .i64 kd, .int .i64 f, .string ⟨st.toArray⟩, .bool wh, .int .i64 fr, .int .i64 tq] 123); clear hr3 hg3) | (go_at_call 180; with_reducible refine (C1.out _).mono ?_; rintro e w4 ⟨rfl, hk4⟩; have K4 := Lib.hid (((Kept.refl w3).allocO (.cells #[.int .i64 kd, .int .i64 f, .string ⟨st.toArray⟩, .bool wh, .int .i64 fr, .int .i64 tq] 123 (0, 0))).trans hk4); have B4 := Lib.hid (B3.out.kept hk4); obtain ⟨b0, b1, b2, b3, b4, b5⟩ := B4.out.cells6; clear hk4) | (go_at_call 180; with_reducible refine (C2.out _).mono ?_; rintro e w5 ⟨rfl, hk5⟩; have K5 := Lib.hid (K4.out.trans hk5); obtain ⟨d0, d1, d2, d3, d4, d5⟩ := (B4.out.kept hk5).cells6; have Z4 := Lib.hid (Z3.out.kept K5.out); obtain ⟨z0, z1, z2, z3⟩ := Z4.out.cells4; have zf := Z4.out.free; have zl := Z4.out.lt; clear hk5))
            obtain ⟨a5, ha5⟩ : ∃ a5, Rdr s a5 rb w5 := ⟨_, R3.out.kept K5.out⟩
            have R5 := Lib.hid ha5
            clear ha5
            have G5 := Lib.hid (show w.grownBy w5 (some rb) from gb_trans (gb_kept KZ.out _) (gb_thenK G3.out K5.out))
            clear K4 K5
            refine bodyPost_ret (v := .tuple #[.agg #[.int .i64 0, .int .i64 0, .int .i64 0, .bool false], .int .i64 3]) ?_ rfl ⟨by rw [HV.out]; first | done | rfl, ⟨a5, fun h => by rw [HV.out] at h; exact absurd h (by decide), ?_⟩, ?_⟩
            · simp [results, Tryz.results207, go_sem, z0, z1, z2, z3, zl, zf]
            · repeat (with_reducible first | exact R5.out | refine Rdr.drew ?_ | refine Rdr.alloc ?_ _ | refine Rdr.other ?_ (by first | omega | exact Ne.symm ‹_›) _)
            · repeat (with_reducible first | exact G5.out | refine gb_drew ?_ | refine gb_alloc ?_ _ | refine gb_fresh ?_ (Nat.le_refl _) _)
      · have HV := Lib.hid (show X = (ue, zeroE, 0) by rw [HX.out, if_pos rfl, if_pos rfl, entT, if_neg h3])
        have hne : (ue != 0) = true := by simpa using h3
        have HE := Lib.hid h3
        clear HX h3
        go_enter Tryz.func207, Tryz.ntmps207
        go_wp2_with (first | (go_at_call 43; first | (with_reducible refine CP.out.mono ?_; rintro e w1 ⟨rfl, ⟨a1, ha1, hr1⟩, hg1⟩; obtain rfl := ha1 (by trivial); have R1 := Lib.hid hr1; have G1 := Lib.hid hg1; have M1 := Lib.hid (RZ.out.max MZ.out hg1); have Z1 := Lib.hid (gbOther BZ.out hg1 nez); clear hr1 hg1 ha1) | (refine (CQ.out _ M1.out R1.out).mono ?_; rintro e w2 ⟨rfl, ⟨a2, ha2, hr2⟩, hg2⟩; obtain rfl := ha2 (by trivial); have R2 := Lib.hid hr2; have G2 := Lib.hid (gb_trans G1.out hg2); have M2 := Lib.hid (R1.out.max M1.out hg2); have Z2 := Lib.hid (gbOther Z1.out hg2 nez); clear hr2 hg2 ha2)) | (go_at_call 71; refine (CU.out _ M2.out R2.out).mono ?_; rintro e w3 ⟨rfl, hr3, hg3⟩; have R3 := Lib.hid hr3; have G3 := Lib.hid (gb_trans G2.out hg3); have Z4 := Lib.hid ((gbOther Z2.out hg3 nez).alloc (.cells #[.int .i64 kd, .int .i64 f, .string ⟨st.toArray⟩, .bool wh, .int .i64 fr, .int .i64 tq] 123)); obtain ⟨z0, z1, z2, z3⟩ := Z4.out.cells4; have zf := Z4.out.free; have zl := Z4.out.lt; clear hr3 hg3))
        have G5 := Lib.hid (show w.grownBy w3 (some rb) from gb_trans (gb_kept KZ.out _) G3.out)
        obtain ⟨a5, ha5⟩ : ∃ a5, Rdr s a5 rb w3 := ⟨_, R3.out⟩
        have R5 := Lib.hid ha5
        clear ha5
        refine bodyPost_ret (v := .tuple #[.agg #[.int .i64 0, .int .i64 0, .int .i64 0, .bool false], .int .i64 ue]) ?_ rfl ⟨by rw [HV.out]; first | done | rfl, ⟨a5, fun h => by rw [HV.out] at h; exact absurd h HE.out, ?_⟩, ?_⟩
        · simp [results, Tryz.results207, go_sem, z0, z1, z2, z3, zl, zf]
        · repeat (with_reducible first | exact R5.out | refine Rdr.drew ?_ | refine Rdr.alloc ?_ _ | refine Rdr.other ?_ (by first | omega | exact Ne.symm ‹_›) _)
        · repeat (with_reducible first | exact G5.out | refine gb_drew ?_ | refine gb_alloc ?_ _ | refine gb_fresh ?_ (Nat.le_refl _) _)
    · have HV := Lib.hid (show X = (qe, zeroE, 0) by rw [HX.out, if_pos rfl, if_neg h2])
      have hne : (qe != 0) = true := by simpa using h2
      have HE := Lib.hid h2
      clear HX h2
      go_enter Tryz.func207, Tryz.ntmps207
      go_wp2_with (go_at_call 43; first | (with_reducible refine CP.out.mono ?_; rintro e w1 ⟨rfl, ⟨a1, ha1, hr1⟩, hg1⟩; obtain rfl := ha1 (by trivial); have R1 := Lib.hid hr1; have G1 := Lib.hid hg1; have M1 := Lib.hid (RZ.out.max MZ.out hg1); have Z1 := Lib.hid (gbOther BZ.out hg1 nez); clear hr1 hg1 ha1) | (refine (CQ.out _ M1.out R1.out).mono ?_; rintro e w2 ⟨rfl, ⟨a2, ha2, hr2⟩, hg2⟩; have R2 := Lib.hid hr2; have G2 := Lib.hid (gb_trans G1.out hg2); have Z4 := Lib.hid (gbOther Z1.out hg2 nez); obtain ⟨z0, z1, z2, z3⟩ := Z4.out.cells4; have zf := Z4.out.free; have zl := Z4.out.lt; clear hr2 hg2 ha2))
      have G5 := Lib.hid (show w.grownBy w2 (some rb) from gb_trans (gb_kept KZ.out _) G2.out)
      obtain ⟨a5, ha5⟩ : ∃ a5, Rdr s a5 rb w2 := ⟨_, R2.out⟩
      have R5 := Lib.hid ha5
      clear ha5
      refine bodyPost_ret (v := .tuple #[.agg #[.int .i64 0, .int .i64 0, .int .i64 0, .bool false], .int .i64 qe]) ?_ rfl ⟨by rw [HV.out]; first | done | rfl, ⟨a5, fun h => by rw [HV.out] at h; exact absurd h HE.out, ?_⟩, ?_⟩
      · simp [results, Tryz.results207, go_sem, z0, z1, z2, z3, zl, zf]
      · repeat (with_reducible first | exact R5.out | refine Rdr.drew ?_ | refine Rdr.alloc ?_ _ | refine Rdr.other ?_ (by first | omega | exact Ne.symm ‹_›) _)
      · repeat (with_reducible first | exact G5.out | refine gb_drew ?_ | refine gb_alloc ?_ _ | refine gb_fresh ?_ (Nat.le_refl _) _)
  · have HV := Lib.hid (show X = (pe, zeroE, 0) by rw [HX.out, if_neg h1])
    have hne : (pe != 0) = true := by simpa using h1
    have HE := Lib.hid h1
    clear HX h1
    go_enter Tryz.func207, Tryz.ntmps207
    go_wp2_with (go_at_call 43; (with_reducible refine CP.out.mono ?_; rintro e w1 ⟨rfl, ⟨a1, ha1, hr1⟩, hg1⟩; have R1 := Lib.hid hr1; have G1 := Lib.hid hg1; have Z4 := Lib.hid (gbOther BZ.out hg1 nez); obtain ⟨z0, z1, z2, z3⟩ := Z4.out.cells4; have zf := Z4.out.free; have zl := Z4.out.lt; clear hr1 hg1 ha1))
    have G5 := Lib.hid (show w.grownBy w1 (some rb) from gb_trans (gb_kept KZ.out _) G1.out)
    obtain ⟨a5, ha5⟩ : ∃ a5, Rdr s a5 rb w1 := ⟨_, R1.out⟩
    have R5 := Lib.hid ha5
    clear ha5
    refine bodyPost_ret (v := .tuple #[.agg #[.int .i64 0, .int .i64 0, .int .i64 0, .bool false], .int .i64 pe]) ?_ rfl ⟨by rw [HV.out]; first | done | rfl, ⟨a5, fun h => by rw [HV.out] at h; exact absurd h HE.out, ?_⟩, ?_⟩
    · simp [results, Tryz.results207, go_sem, z0, z1, z2, z3, zl, zf]
    · repeat (with_reducible first | exact R5.out | refine Rdr.drew ?_ | refine Rdr.alloc ?_ _ | refine Rdr.other ?_ (by first | omega | exact Ne.symm ‹_›) _)
    · repeat (with_reducible first | exact G5.out | refine gb_drew ?_ | refine gb_alloc ?_ _ | refine gb_fresh ?_ (Nat.le_refl _) _)

end Go.Proofs.YtoablpaehhjchaaGreatDoor

namespace Go.Proofs.YtoablpaehhjchaaGreatDoor
open Go.RowKit Rx
set_option linter.unusedSimpArgs false
set_option linter.unusedVariables false

theorem zeros_made (n : Nat) : (madeCells (Value.agg #[.int .i64 0, .int .i64 0, .int .i64 0, .bool false]).cells (n * 4)).toList = entC (List.replicate n zeroE) := by
  apply List.ext_getElem?
  intro t
  have hl : (entC (List.replicate n zeroE)).length = n * 4 := by rw [entC_len, List.length_replicate]; omega
  by_cases ht : t < n * 4
  · obtain ⟨i, q, hq, rfl⟩ : ∃ i q, q < 4 ∧ t = i * 4 + q := ⟨t / 4, t % 4, Nat.mod_lt _ (by decide), by omega⟩
    rw [entC_get _ i (by rw [List.length_replicate]; omega) q hq, List.getElem_replicate]
    rw [Array.getElem?_toList, Array.getElem?_eq_getElem (by rw [size_madeCells]; exact ht)]
    have e : (madeCells (Value.agg #[.int .i64 0, .int .i64 0, .int .i64 0, .bool false]).cells (n * 4))[i * 4 + q]'(by rw [size_madeCells]; exact ht) = #[Value.int .i64 0, .int .i64 0, .int .i64 0, .bool false][(i * 4 + q) % 4]! := by
      simp [madeCells, Value.cells]
    rw [e, show (i * 4 + q) % 4 = q by omega]
    match q, hq with
    | 0, _ => rfl
    | 1, _ => rfl
    | 2, _ => rfl
    | 3, _ => rfl
  · rw [List.getElem?_eq_none (by rw [Array.length_toList, size_madeCells]; omega), List.getElem?_eq_none (by omega)]
theorem entC_set : ∀ (l : List Xent) (j : Nat) (e : Xent) (h : j < l.length) (R : List Value), ((((entC l ++ R).set (j * 4) (.int .i64 e.n)).set (j * 4 + 1) (.int .i64 e.off)).set (j * 4 + 2) (.int .i64 e.gen)).set (j * 4 + 3) (.bool e.used) = entC (l.set j e) ++ R
  | [], j, e, h, R => by simp at h
  | x :: l, 0, e, h, R => by
    unfold entC
    simp [entc]
  | x :: l, j + 1, e, h, R => by
    have ih := entC_set l j e (by simpa using h) R
    have e1 : entC (x :: l) ++ R = .int .i64 x.n :: .int .i64 x.off :: .int .i64 x.gen :: .bool x.used :: (entC l ++ R) := by unfold entC; simp [entc]
    have e2 : entC ((x :: l).set (j + 1) e) ++ R = .int .i64 x.n :: .int .i64 x.off :: .int .i64 x.gen :: .bool x.used :: (entC (l.set j e) ++ R) := by unfold entC; simp [entc]
    rw [e1, e2, ← ih]
    rw [show (j + 1) * 4 = j * 4 + 1 + 1 + 1 + 1 by omega]
    simp only [List.set_cons_succ]
theorem Ents.put {T : TypeId} {w : World} {B g n c : Nat} {l : List Xent} (h : Ents T w B (.slice (some ⟨g, 0, none⟩) n c) l) {j : Nat} (hj : j < l.length) (e : Xent) :
    Ents T ((((w.setCell ⟨g, j * 4, none⟩ (.int .i64 e.n)).setCell ⟨g, j * 4 + 1, none⟩ (.int .i64 e.off)).setCell ⟨g, j * 4 + 2, none⟩ (.int .i64 e.gen)).setCell ⟨g, j * 4 + 3, none⟩ (.bool e.used)) B (.slice (some ⟨g, 0, none⟩) n c) (l.set j e) := by
  rcases h.2 with ⟨he, _⟩ | ⟨g', cap, cur, he, hb, hh, hn, hc, hs, ht⟩
  · cases he
  injection he with e1 e2 e3
  injection e1 with e1
  injection e1 with e1
  subst e1 e2 e3
  have hcl := entC_len l
  have hb4 := (((Blk.set (show Blk w g cur T from hh) (j * 4) (.int .i64 e.n)).set (j * 4 + 1) (.int .i64 e.off)).set (j * 4 + 2) (.int .i64 e.gen)).set (j * 4 + 3) (.bool e.used)
  have key : ((((cur.setIfInBounds (j * 4) (.int .i64 e.n)).setIfInBounds (j * 4 + 1) (.int .i64 e.off)).setIfInBounds (j * 4 + 2) (.int .i64 e.gen)).setIfInBounds (j * 4 + 3) (.bool e.used)).toList = entC (l.set j e) ++ cur.toList.drop (l.length * 4) := by
    obtain ⟨R, hR⟩ : ∃ R, R = cur.toList.drop (l.length * 4) := ⟨_, rfl⟩
    have h1 : cur.toList = entC l ++ R := by rw [← ht, hR, List.take_append_drop]
    simp only [Array.toList_setIfInBounds]
    rw [← hR, h1]
    exact entC_set l j e hj R
  have hcl2 := entC_len (l.set j e)
  rw [List.length_set] at hcl2
  unfold Ents
  rw [List.length_set]
  refine ⟨by rw [hcl2]; omega, .inr ⟨g, c, _, rfl, hb, hb4, hn, hc, by simpa using hs, ?_⟩⟩
  rw [key, List.take_append_of_le_length (by omega), List.take_of_length_le (by omega)]

theorem Ents.at {T : TypeId} {w : World} {B g n c : Nat} {l : List Xent} (h : Ents T w B (.slice (some ⟨g, 0, none⟩) n c) l) {j : Nat} (hj : j < l.length) :
    (∃ v, w.cell? ⟨g, j * 4, none⟩ = some v) ∧ (∃ v, w.cell? ⟨g, j * 4 + 1, none⟩ = some v) ∧ (∃ v, w.cell? ⟨g, j * 4 + 2, none⟩ = some v) ∧ (∃ v, w.cell? ⟨g, j * 4 + 3, none⟩ = some v) ∧ (∀ o, w.frozen? ⟨g, o, none⟩ = false) := by
  obtain ⟨k, o, hp, _, c0, c1, c2, c3⟩ := h.entR j hj
  injection hp with hp
  injection hp with e1 e2
  subst e1 e2
  rw [Nat.zero_add] at c0 c1 c2 c3
  refine ⟨⟨_, c0⟩, ⟨_, c1⟩, ⟨_, c2⟩, ⟨_, c3⟩, fun o => ?_⟩
  rcases h.2 with ⟨he, _⟩ | ⟨g', cap, cur, he, hb, hh, _⟩
  · cases he
  · injection he with e1
    injection e1 with e1
    injection e1 with e1
    subst e1
    simp [World.frozen?, hh]
theorem set_next (done : List Xent) (n : Nat) (e : Xent) (h : done.length < n) : (done ++ List.replicate (n - done.length) zeroE).set done.length e = (done ++ [e]) ++ List.replicate (n - (done.length + 1)) zeroE := by
  obtain ⟨m, hm⟩ : ∃ m, n - done.length = m + 1 := ⟨n - done.length - 1, by omega⟩
  rw [hm, show n - (done.length + 1) = m by omega, List.replicate_succ, List.set_append_right _ _ (Nat.le_refl _), Nat.sub_self, List.set_cons_zero]
  simp

set_option maxRecDepth 100000 in
set_option maxHeartbeats 8000000 in
theorem section_any (s : ByteArray) (first : Int) (a : Nat) (rb : Nat) (w : World) (hs : s.size ≤ 4294967295) (h0 : 0 ≤ first) (h1 : first ≤ 2147483) (hm : HasMax w) (hr : Rdr s a rb w) (X : Int × List Xent × Nat) (hX : X = secX s.data.toList first a) :
    Calls Tryz.prog 181 #[.pointer (some ⟨rb, 0, none⟩), .int .i64 first] w fun e w' =>
      ∃ v, e = .returned (.tuple #[v, .int .i64 X.1]) ∧ Ents 65 w' w.heap.size v X.2.1 ∧ (∃ a' : Int, (X.1 = 0 → a' = X.2.2) ∧ Rdr s a' rb w') ∧ w.grownBy w' (some rb) := by
  have hrb := hr.lt
  obtain ⟨i0, hi, hz0, hz1, hz2⟩ := info_parts info_xent
  obtain ⟨P, hP⟩ : ∃ P, P = wholeX s.data.toList a := ⟨_, rfl⟩
  have CP := Lib.hid (whole_any s a rb w hs hm hr P hP)
  have HX := Lib.hid (show X = if P.1 = 0 then (if 0 < P.2.1 ∧ 4096 < first + P.2.1 then (6, [], 0) else secG s.data.toList P.2.1.toNat first P.2.2 []) else (P.1, [], 0) by rw [hX, secX, ← hP])
  have HPB := Lib.hid (fun h : P.1 = 0 => show 0 ≤ P.2.1 ∧ P.2.1 ≤ 2147483 from by rw [hP] at h ⊢; exact (wholeX_ok h).2.2.2)
  have HM := Lib.hid hm
  have HR := Lib.hid hr
  clear hX hP hm hr
  obtain ⟨pe, pv, pt⟩ := P
  simp only [] at CP HX HPB
  by_cases he : pe = 0
  · subst he
    obtain ⟨p0, p1⟩ := HPB.out rfl
    by_cases hbig : 0 < pv ∧ 4096 < first + pv
    · have HV := Lib.hid (show X = (6, [], 0) by rw [HX.out, if_pos rfl, if_pos hbig])
      obtain ⟨b1, b2⟩ := hbig
      clear HX HPB
      have i1 : IntKind.i64.wrap (first + pv) = first + pv := IntWalk.i64_in _ (by omega)
      go_enter Tryz.func181, Tryz.ntmps181
      go_wp2_with (go_at_call 43; refine CP.out.mono ?_; rintro e w1 ⟨rfl, ⟨a1, ha1, hr1⟩, hg1⟩; have R1 := Lib.hid hr1; have G1 := Lib.hid hg1; clear hr1 hg1 ha1)
      go_ret2
      exact ⟨_, by rw [HV.out]; first | done | rfl, by rw [HV.out]; exact World.ownsRow_nil _ _ _ _, ⟨a1, fun h => by rw [HV.out] at h; exact absurd h (by decide), R1.out⟩, G1.out⟩
    · have hn4 : pv = 0 ∨ first + pv ≤ 4096 := by omega
      obtain ⟨n, rfl⟩ : ∃ n : Nat, pv = (n : Int) := ⟨pv.toNat, by omega⟩
      have HV := Lib.hid (show X = secG s.data.toList n first pt [] by rw [HX.out, if_pos rfl, if_neg hbig, Int.toNat_natCast])
      have hn : n ≤ 4096 := by omega
      have HS := Lib.hid (show True from trivial)
      have hbigc : ¬ 0 < (n : Int) ∨ (0 < (n : Int) ∧ ¬ 4096 < first + (n : Int)) := by omega
      have i1 : IntKind.i64.wrap (first + (n : Int)) = first + (n : Int) := IntWalk.i64_in _ (by omega)
      clear HX HPB hbig HS
      have HH := Lib.hid (show rb < w.heap.size from hrb)
      rcases hbigc with b1 | ⟨b1, b2⟩
      all_goals
        go_enter Tryz.func181, Tryz.ntmps181
        go_wp2_with (first
          | (go_at_call 43; refine CP.out.mono ?_; rintro e w1 ⟨rfl, ⟨a1, ha1, hr1⟩, hg1⟩; obtain rfl := ha1 (by trivial); have R1 := Lib.hid hr1; have G1 := Lib.hid hg1; clear hr1 hg1 ha1)
          | (at_make; refine wpList_make_full _ rfl _ _ 22 rfl w1.heap.size 65 i0 _ 4 Tryz.underlying22 hi hz0 hz1 .i64 .i64 _ _ n rfl rfl rfl rfl (by rw [hz2]; omega) (by unfold maxLen; omega) (Nat.le_refl _) ?_; intro w4 hown hgrow; have O4 := Lib.hid (show Ents 65 w4 w1.heap.size (.slice (some ⟨w1.heap.size, 0, none⟩) n n) (List.replicate n zeroE) from (by unfold Ents; rw [List.length_replicate, ← zeros_made]; exact hown)); have GG := Lib.hid hgrow; clear hown hgrow))
        have hw1 := G1.out.size
        have hw4 := GG.out.size
        have G4 := Lib.hid (show w.grownBy w4 (some rb) from gb_trans G1.out ⟨GG.out.os, GG.out.tape, GG.out.output, GG.out.size, fun k hk _ => GG.out.block k hk (by simp)⟩)
        have R4 := Lib.hid (show Rdr s pt rb w4 from R1.out.gb GG.out (by simp))
        obtain ⟨g, hg⟩ : ∃ g, g = w1.heap.size := ⟨_, rfl⟩
        rw [← hg] at O4 hw1 hw4 ⊢
        have ng : rb ≠ g := by have := HH.out; omega
        clear R1 G1 GG hg hi hz0 hz1 hz2
        go_loopg [7, 9, 30] (n + 1) (fun x ev iv y wr => ∃ (j ap : Nat) (done : List Xent) (zi : Value), zi = iv ∧ ev = .int .i64 0 ∧ x = n + 1 - j ∧ j ≤ n ∧ y = .int .i64 j ∧ done.length = j ∧ Hid (secG s.data.toList (n - j) (first + j) ap done = secG s.data.toList n first pt []) ∧ Rdr s ap rb wr ∧ Ents 65 wr g (.slice (some ⟨g, 0, none⟩) n n) (done ++ List.replicate (n - j) zeroE) ∧ w.grownBy wr (some rb))
        case atStart => exact ⟨0, pt, [], _, rfl, rfl, rfl, Nat.zero_le _, rfl, rfl, Lib.hid (by simp), R4.out, by simpa using O4.out, G4.out⟩
        case round =>
          obtain ⟨j, ap, done, zi, rfl, rfl, hx, hj, rfl, hdl, HS2, hr, ho, hgr⟩ := hrel
          have RR := Lib.hid hr
          have OO := Lib.hid ho
          have GR := Lib.hid hgr
          have MM := Lib.hid (HR.out.max HM.out hgr)
          have hrz := hr.lt
          clear hr ho hgr
          by_cases hlt : j < n
          · (try (exfalso; omega))
            all_goals
              have j1 : (j : Int) < (n : Int) := by omega
              have i2 : IntKind.i64.wrap (first + (j : Int)) = first + (j : Int) := IntWalk.i64_in _ (by omega)
              obtain ⟨Y, hY⟩ : ∃ Y, Y = entX s.data.toList ap (first + j) := ⟨_, rfl⟩
              have CE := Lib.hid (entry_any s ap (first + j) rb wr hs MM.out RR.out Y hY)
              have HST := Lib.hid (show secG s.data.toList (n - j) (first + j) ap done = if Y.1 = 0 then secG s.data.toList (n - (j + 1)) (first + ((j + 1 : Nat) : Int)) Y.2.2 (done ++ [Y.2.1]) else (Y.1, [], 0) by
                obtain ⟨m, hm⟩ : ∃ m, n - j = m + 1 := ⟨n - j - 1, by omega⟩
                rw [hm, secG, ← hY, show n - (j + 1) = m by omega, show first + ((j + 1 : Nat) : Int) = first + (j : Int) + 1 by omega])
              obtain ⟨ye, ⟨yn, yo, yg, yu⟩, yt⟩ := Y
              unfold xentV at CE
              simp only [] at CE HST
              clear hY
              by_cases hye : ye = 0
              · subst hye
                have HSN := Lib.hid (show secG s.data.toList (n - (j + 1)) (first + ((j + 1 : Nat) : Int)) yt (done ++ [⟨yn, yo, yg, yu⟩]) = secG s.data.toList n first pt [] by rw [← HS2.out, HST.out, if_pos rfl])
                clear HST HS2
                go_wp2_with (go_at_call 207; refine CE.out.mono ?_; rintro e w5 ⟨rfl, ⟨a5, ha5, hr5⟩, hg5⟩; obtain rfl := ha5 (by trivial); have R5 := Lib.hid hr5; have G5 := Lib.hid (gb_trans GR.out hg5); have O5 := Lib.hid (OO.out.gb hg5 (.inr (by simp [Value.ownBlock]; omega))); obtain ⟨⟨v0, x0⟩, ⟨v1, x1⟩, ⟨v2, x2⟩, ⟨v3, x3⟩, xf⟩ := O5.out.at (j := j) (by simp; omega); have gl := (O5.out.lt g rfl).2; clear hr5 hg5 ha5)
                have OP := Lib.hid (O5.out.put (j := j) (by simp; omega) ⟨yn, yo, yg, yu⟩)
                clear x0 x1 x2 x3
                go_roundg (n + 1 - (j + 1))
                case measure => omega
                case rel =>
                  refine ⟨j + 1, yt, done ++ [⟨yn, yo, yg, yu⟩], _, rfl, rfl, rfl, by omega, by go_num, by simp; omega, Lib.hid HSN.out, ?_, ?_, ?_⟩
                  · repeat (with_reducible first | exact R5.out | refine Rdr.other ?_ ng _)
                  · have h := OP.out
                    rw [← hdl, set_next done n _ (by omega), hdl] at h
                    exact h
                  · repeat (with_reducible first | exact G5.out | refine gb_fresh ?_ (by omega) _)
              · have HV2 := Lib.hid (show X = (ye, [], 0) by rw [HV.out, ← HS2.out, HST.out, if_neg hye])
                have hne : (ye != 0) = true := by simpa using hye
                have HE := Lib.hid hye
                clear hye HST HS2
                go_wp2_with (go_at_call 207; refine CE.out.mono ?_; rintro e w5 ⟨rfl, ⟨a5, ha5, hr5⟩, hg5⟩; have R5 := Lib.hid hr5; have G5 := Lib.hid (gb_trans GR.out hg5); have O5 := Lib.hid (OO.out.gb hg5 (.inr (by simp [Value.ownBlock]; omega))); obtain ⟨⟨v0, x0⟩, ⟨v1, x1⟩, ⟨v2, x2⟩, ⟨v3, x3⟩, xf⟩ := O5.out.at (j := j) (by simp; omega); have gl := (O5.out.lt g rfl).2; clear hr5 hg5 ha5)
                go_ret2
                refine ⟨_, by rw [HV2.out]; first | done | rfl, by rw [HV2.out]; exact World.ownsRow_nil _ _ _ _, ⟨a5, fun h => by rw [HV2.out] at h; exact absurd h HE.out, ?_⟩, ?_⟩
                · repeat (with_reducible first | exact R5.out | refine Rdr.other ?_ ng _)
                · repeat (with_reducible first | exact G5.out | refine gb_fresh ?_ (by omega) _)
          · obtain rfl : j = n := by omega
            have HV2 := Lib.hid (show X = (0, done, ap) by rw [HV.out, ← HS2.out, Nat.sub_self]; rfl)
            have OF := Lib.hid (show Ents 65 wr w.heap.size (.slice (some ⟨g, 0, none⟩) j j) done from by have h := OO.out; rw [Nat.sub_self, List.replicate_zero, List.append_nil] at h; exact h.base hw1)
            go_wp2_with fail
            go_ret2
            exact ⟨_, by rw [HV2.out]; first | done | rfl, by rw [HV2.out]; exact OF.out, ⟨(ap : Int), fun _ => by rw [HV2.out], RR.out⟩, GR.out⟩
  · have HV := Lib.hid (show X = (pe, [], 0) by rw [HX.out, if_neg he])
    have hne : (pe != 0) = true := by simpa using he
    have HE := Lib.hid he
    clear he HX HPB
    go_enter Tryz.func181, Tryz.ntmps181
    go_wp2_with (go_at_call 43; refine CP.out.mono ?_; rintro e w1 ⟨rfl, ⟨a1, ha1, hr1⟩, hg1⟩; have R1 := Lib.hid hr1; have G1 := Lib.hid hg1; clear hr1 hg1 ha1)
    go_ret2
    exact ⟨_, by rw [HV.out]; first | done | rfl, by rw [HV.out]; exact World.ownsRow_nil _ _ _ _, ⟨a1, fun h => by rw [HV.out] at h; exact absurd h HE.out, R1.out⟩, G1.out⟩

end Go.Proofs.YtoablpaehhjchaaGreatDoor

namespace Go.Proofs.YtoablpaehhjchaaGreatDoor
open Go.RowKit Rx
set_option linter.unusedSimpArgs false
set_option linter.unusedVariables false

theorem gb_ownX {a b c : World} {rb : Nat} {v : Value} (h : a.grownBy b (some rb)) (k : b.grownBy c v.ownBlock) (hv : ∀ g, v.ownBlock = some g → a.heap.size ≤ g) : a.grownBy c (some rb) :=
  ⟨k.os.trans h.os, k.tape.trans h.tape, k.output.trans h.output, Nat.le_trans h.size k.size, fun j hj hn => (k.block j (Nat.lt_of_lt_of_le hj h.size) (fun e => by have := hv j e.symm; omega)).trans (h.block j hj hn)⟩
set_option maxRecDepth 100000 in
set_option maxHeartbeats 8000000 in
theorem entries_any (s : ByteArray) (a : Int) (rb : Nat) (w : World) (hs : s.size ≤ 65536) (hm : HasMax w) (hr : Rdr s a rb w) (X : Int × List Xent × Nat) (hX : X = entsX s.data.toList a) :
    Calls Tryz.prog 154 #[.pointer (some ⟨rb, 0, none⟩)] w fun e w' =>
      ∃ v, e = .returned (.tuple #[v, .int .i64 X.1]) ∧ Ents 65 w' w.heap.size v X.2.1 ∧ (∃ a' : Int, (X.1 = 0 → a' = X.2.2) ∧ Rdr s a' rb w') ∧ w.grownBy w' (some rb) := by
  have hs4 : s.size ≤ 4294967295 := by omega
  have hrb := hr.lt
  have hlen : s.data.toList.length = s.size := by simp
  obtain ⟨U, hU⟩ : ∃ U, U = tokX s.data.toList a := ⟨_, rfl⟩
  have CT := Lib.hid (rtoken_any s a rb w hs4 hm hr U hU)
  have CI := Lib.hid (fun W => xisWord_any U.2 [120, 114, 101, 102] W)
  have HX := Lib.hid (show X = if U.1 = 0 then (if isWd U.2 [120, 114, 101, 102] then entsG s.data.toList (s.data.toList.length + 2) U.2.to [] else (3, [], 0)) else (U.1, [], 0) by rw [hX, entsX, ← hU])
  have HUB := Lib.hid (fun h : U.1 = 0 => show U.2.to ≤ s.size from by rw [hU] at h ⊢; have := (tokX_ok h).2.2.2.2.2; rw [hlen] at this; exact this)
  have HM := Lib.hid hm
  have HR := Lib.hid hr
  clear hX hU hm hr
  obtain ⟨ue, kd, f, st, wh, fr, tq⟩ := U
  unfold tkV at CT CI
  simp only [] at CT CI HX HUB
  by_cases he : ue = 0
  · subst he
    have hto := HUB.out rfl
    cases hx : isWd ⟨kd, f, st, wh, fr, tq⟩ [120, 114, 101, 102] with
    | false =>
      have HV := Lib.hid (show X = (3, [], 0) by rw [HX.out, if_pos rfl, hx]; rfl)
      rw [hx] at CI
      clear HX HUB hx
      go_enter Tryz.func154, Tryz.ntmps154
      go_wp2_with (first | (go_at_call 71; refine CT.out.mono ?_; rintro e w1 ⟨rfl, hr1, hg1⟩; have R1 := Lib.hid hr1; have G1 := Lib.hid hg1; clear hr1 hg1) | (go_at_call 180; refine (CI.out _).mono ?_; rintro e w2 ⟨rfl, hk2⟩))
      go_ret2
      exact ⟨_, by rw [HV.out]; first | done | rfl, by rw [HV.out]; exact World.ownsRow_nil _ _ _ _, ⟨_, fun h => by rw [HV.out] at h; exact absurd h (by decide), R1.out.kept (((Kept.refl w1).allocO _).trans hk2)⟩, gb_thenK G1.out (((Kept.refl w1).allocO _).trans hk2)⟩
    | true =>
      have HV := Lib.hid (show X = entsG s.data.toList (s.data.toList.length + 2) tq [] by rw [HX.out, if_pos rfl, hx]; rfl)
      rw [hx] at CI
      clear HX HUB hx
      go_enter Tryz.func154, Tryz.ntmps154
      go_wp2_with (first | (go_at_call 71; refine CT.out.mono ?_; rintro e w1 ⟨rfl, hr1, hg1⟩; have R1 := Lib.hid hr1; have G1 := Lib.hid hg1; clear hr1 hg1) | (go_at_call 180; refine (CI.out _).mono ?_; rintro e w2 ⟨rfl, hk2⟩))
      have R2 := Lib.hid (show Rdr s tq rb w2 from by have h := R1.out; rw [if_pos (by trivial)] at h; exact h.kept (((Kept.refl w1).allocO _).trans hk2))
      have G2 := Lib.hid (gb_thenK G1.out (((Kept.refl w1).allocO _).trans hk2))
      clear hk2 R1 G1 CT CI
      go_loopg [6] (s.size + 1 - tq) (fun x lv wr => ∃ (ap F : Nat) (acc : List Xent) (v : Value), v = lv ∧ x = s.size + 1 - ap ∧ ap ≤ s.size ∧ s.size < F + ap ∧ acc.length ≤ 4096 * ap ∧ Hid (entsG s.data.toList F ap acc = X) ∧ Rdr s ap rb wr ∧ Ents 65 wr w.heap.size v acc ∧ w.grownBy wr (some rb))
      case atStart => exact ⟨tq, s.data.toList.length + 2, [], _, rfl, rfl, hto, by rw [hlen]; omega, Nat.zero_le _, Lib.hid HV.out.symm, R2.out, World.ownsRow_nil _ _ _ _, G2.out⟩
      case round =>
        obtain ⟨ap, F, acc, v, rfl, hxm, hap, hF, hacc, HS, hr, ho, hg⟩ := hrel
        have RR := Lib.hid hr
        have OO := Lib.hid ho
        have GR := Lib.hid hg
        have MM := Lib.hid (HR.out.max HM.out hg)
        have hwz := hg.size
        clear hr ho hg R2 G2 HV
        obtain ⟨F, rfl⟩ : ∃ F', F = F' + 1 := ⟨F - 1, by omega⟩
        obtain ⟨U, hU⟩ : ∃ U, U = tokX s.data.toList ap := ⟨_, rfl⟩
        have CT := Lib.hid (rtoken_any s ap rb wr hs4 MM.out RR.out U hU)
        have CI := Lib.hid (fun W => xisWord_any U.2 [116, 114, 97, 105, 108, 101, 114] W)
        have CW := Lib.hid (fun W => isWhole_any U.2 W)
        have CV := Lib.hid (fun W => wholeOf_any U.2 W (by rw [hU]; exact (tokX_f s.data.toList ap).1) (by rw [hU]; exact (tokX_f s.data.toList ap).2))
        have HX2 := Lib.hid (show X = if U.1 = 0 then (if isWd U.2 trailT then (0, acc, U.2.to) else if isWh U.2 then (if (secX s.data.toList (U.2.f.tdiv 1000) U.2.to).1 = 0 then entsG s.data.toList F (secX s.data.toList (U.2.f.tdiv 1000) U.2.to).2.2 (acc ++ (secX s.data.toList (U.2.f.tdiv 1000) U.2.to).2.1) else ((secX s.data.toList (U.2.f.tdiv 1000) U.2.to).1, [], 0)) else (3, [], 0)) else (U.1, [], 0) by rw [← HS.out, entsG, ← hU])
        have HUB2 := Lib.hid (fun h : U.1 = 0 => show ap < U.2.to ∧ U.2.to ≤ s.size from by rw [hU] at h ⊢; have h2 := tokX_ok h; rw [hlen] at h2; omega)
        have HWF := Lib.hid (fun h : U.1 = 0 => fun h2 : isWh U.2 = true => show 0 ≤ U.2.f.tdiv 1000 ∧ U.2.f.tdiv 1000 ≤ 2147483 from by
          have h3 : (wholeX s.data.toList ap).1 = 0 := by unfold wholeX; rw [← hU, if_pos h, if_pos h2]
          have h4 := (wholeX_ok h3).2.2.2
          have h5 : (wholeX s.data.toList ap).2.1 = U.2.f.tdiv 1000 := by unfold wholeX; rw [← hU, if_pos h, if_pos h2]
          rw [h5] at h4; exact h4)
        clear hU
        obtain ⟨ve, kd2, f2, st2, wh2, fr2, tq2⟩ := U
        unfold tkV at CT CI CW CV
        simp only [] at CT CI CW CV HX2 HUB2 HWF
        by_cases hve : ve = 0
        · subst hve
          obtain ⟨u1, u2⟩ := HUB2.out rfl
          cases ht : isWd ⟨kd2, f2, st2, wh2, fr2, tq2⟩ trailT with
          | true =>
            have HV := Lib.hid (show X = (0, acc, tq2) by rw [HX2.out, if_pos rfl, ht]; rfl)
            have CI2 := Lib.hid (fun W => show Calls Tryz.prog 180 #[.agg #[.int .i64 kd2, .int .i64 f2, .string ⟨st2.toArray⟩, .bool wh2, .int .i64 fr2, .int .i64 tq2], .string ⟨([116, 114, 97, 105, 108, 101, 114] : List UInt8).toArray⟩] W fun e w' => e = .returned (.bool true) ∧ Kept W w' from by rw [← ht]; exact CI.out W)
            clear HX2 HUB2 HWF ht CI CW CV HS
            go_wp2_with (first | (go_at_call 71; refine CT.out.mono ?_; rintro e w1 ⟨rfl, hr1, hg1⟩; have R1 := Lib.hid hr1; have G1 := Lib.hid hg1; clear hr1 hg1) | (go_at_call 180; refine (CI2.out _).mono ?_; rintro e w2 ⟨rfl, hk2⟩))
            go_ret2
            have hgb : wr.grownBy w2 (some rb) := gb_thenK G1.out (((Kept.refl w1).allocO _).trans hk2)
            exact ⟨v, by rw [HV.out]; first | done | rfl, by rw [HV.out]; exact OO.out.gb hgb (by cases hv : v.ownBlock with
              | none => exact .inl rfl
              | some g => exact .inr (fun e => by have := (OO.out.lt g hv).1; injection e with e; omega)), ⟨(tq2 : Int), fun _ => by rw [HV.out], by have h := R1.out; rw [if_pos (by trivial)] at h; exact h.kept (((Kept.refl w1).allocO _).trans hk2)⟩, gb_trans GR.out hgb⟩
          | false =>
            have CI2 := Lib.hid (fun W => show Calls Tryz.prog 180 #[.agg #[.int .i64 kd2, .int .i64 f2, .string ⟨st2.toArray⟩, .bool wh2, .int .i64 fr2, .int .i64 tq2], .string ⟨([116, 114, 97, 105, 108, 101, 114] : List UInt8).toArray⟩] W fun e w' => e = .returned (.bool false) ∧ Kept W w' from by rw [← ht]; exact CI.out W)
            cases hw : isWh ⟨kd2, f2, st2, wh2, fr2, tq2⟩ with
            | false =>
              have HV := Lib.hid (show X = (3, [], 0) by rw [HX2.out, if_pos rfl, ht, hw]; rfl)
              rw [hw] at CW
              clear HX2 HUB2 HWF ht hw CI CV HS
              go_wp2_with (first | (go_at_call 71; refine CT.out.mono ?_; rintro e w1 ⟨rfl, hr1, hg1⟩; have R1 := Lib.hid hr1; have G1 := Lib.hid hg1; have B1 := Lib.hid (Blk.fresh w1 #[.int .i64 kd2, .int .i64 f2, .string ⟨st2.toArray⟩, .bool wh2, .int .i64 fr2, .int .i64 tq2] 123); clear hr1 hg1) | (go_at_call 180; refine (CI2.out _).mono ?_; rintro e w2 ⟨rfl, hk2⟩; obtain ⟨b0, b1, b2, b3, b4, b5⟩ := (B1.out.kept hk2).cells6; have K2 := Lib.hid (((Kept.refl w1).allocO (.cells #[.int .i64 kd2, .int .i64 f2, .string ⟨st2.toArray⟩, .bool wh2, .int .i64 fr2, .int .i64 tq2] 123 (0, 0))).trans hk2); clear hk2) | (go_at_call 72; refine (CW.out _).mono ?_; rintro e w3 ⟨rfl, hk3⟩))
              go_ret2
              exact ⟨_, by rw [HV.out]; first | done | rfl, by rw [HV.out]; exact World.ownsRow_nil _ _ _ _, ⟨_, fun h => by rw [HV.out] at h; exact absurd h (by decide), R1.out.kept (K2.out.trans hk3)⟩, gb_trans GR.out (gb_thenK G1.out (K2.out.trans hk3))⟩
            | true =>
              obtain ⟨n0, n1⟩ := HWF.out rfl hw
              obtain ⟨fst, hfst⟩ : ∃ fst, fst = f2.tdiv 1000 := ⟨_, rfl⟩
              rw [← hfst] at n0 n1 CV
              obtain ⟨S, hS⟩ : ∃ S, S = secX s.data.toList fst tq2 := ⟨_, rfl⟩
              have HX3 := Lib.hid (show X = if S.1 = 0 then entsG s.data.toList F S.2.2 (acc ++ S.2.1) else (S.1, [], 0) by rw [HX2.out, if_pos rfl, ht, hw, ← hfst, ← hS]; rfl)
              have CS := Lib.hid (fun W hm hr => section_any s fst tq2 rb W hs4 n0 n1 hm hr S hS)
              have HSB := Lib.hid (fun h : S.1 = 0 => show tq2 < S.2.2 ∧ S.2.2 ≤ s.size ∧ S.2.1.length ≤ 4096 from by rw [hS] at h ⊢; have h2 := secX_ok h; rw [hlen] at h2; exact ⟨h2.1, h2.2.1, h2.2.2 n0⟩)
              rw [hw] at CW
              clear HX2 HUB2 HWF ht hw CI HS hfst hS
              obtain ⟨se, es, sp⟩ := S
              simp only [] at HX3 CS HSB
              by_cases hse : se = 0
              · subst hse
                obtain ⟨q1, q2, q3⟩ := HSB.out rfl
                have HV := Lib.hid (show entsG s.data.toList F sp (acc ++ es) = X by rw [HX3.out, if_pos rfl])
                clear HX3 HSB
                go_wp2_with (first
                  | (go_at_call 71; refine CT.out.mono ?_; rintro e w1 ⟨rfl, hr1, hg1⟩; have R1 := Lib.hid (show Rdr s tq2 rb w1 from by rw [if_pos (by trivial)] at hr1; exact hr1); have G1 := Lib.hid hg1; have B1 := Lib.hid (Blk.fresh w1 #[.int .i64 kd2, .int .i64 f2, .string ⟨st2.toArray⟩, .bool wh2, .int .i64 fr2, .int .i64 tq2] 123); clear hr1 hg1)
                  | (go_at_call 180; refine (CI2.out _).mono ?_; rintro e w2 ⟨rfl, hk2⟩; have B2 := Lib.hid (B1.out.kept hk2); obtain ⟨b0, b1, b2, b3, b4, b5⟩ := B2.out.cells6; have K2 := Lib.hid (((Kept.refl w1).allocO (.cells #[.int .i64 kd2, .int .i64 f2, .string ⟨st2.toArray⟩, .bool wh2, .int .i64 fr2, .int .i64 tq2] 123 (0, 0))).trans hk2); clear hk2)
                  | (go_at_call 72; refine (CW.out _).mono ?_; rintro e w3 ⟨rfl, hk3⟩; have B3 := Lib.hid (B2.out.kept hk3); obtain ⟨d0, d1, d2, d3, d4, d5⟩ := B3.out.cells6; have K3 := Lib.hid (K2.out.trans hk3); clear hk3)
                  | (go_at_call 73; refine (CV.out _).mono ?_; rintro e w4 ⟨rfl, hk4⟩; have K4 := Lib.hid (K3.out.trans hk4); have R4 := Lib.hid (R1.out.kept K4.out); have G4 := Lib.hid (gb_thenK G1.out K4.out); have M4 := Lib.hid (RR.out.max MM.out G4.out); clear hk4)
                  | (go_at_call 181; refine (CS.out _ M4.out R4.out).mono ?_; rintro e w5 ⟨v5, rfl, ho5, ⟨a5, ha5, hr5⟩, hg5⟩; obtain rfl := ha5 (by trivial); obtain ⟨p5, c5, rfl, hsl5⟩ := ho5.sl; have S5 := Lib.hid hsl5; have R5 := Lib.hid hr5; have GW := Lib.hid (gb_trans G4.out hg5); have G5 := Lib.hid (gb_trans GR.out GW.out); have O5 := Lib.hid (OO.out.gb GW.out (by cases hv : v.ownBlock with
                    | none => exact .inl rfl
                    | some g => exact .inr (fun e => by have := (OO.out.lt g hv).1; injection e with e; omega))); have hz5 := G5.out.size; clear hr5 hg5 ho5 ha5 hsl5)
                  | (at_builtin; refine wpList_app_slice (by rfl) _ _ (by rfl) O5.out (by rfl) p5 es c5 S5.out.1 S5.out.2.1 (by rfl) hz5 (by omega) ?_; intro v6 w6 ho6 hg6))
                have O6 := Lib.hid ho6
                have G6 := Lib.hid (gb_ownX G5.out hg6 (fun g hg => (O5.out.lt g hg).1))
                have R6 := Lib.hid (R5.out.gb hg6 (fun e => by have := (O5.out.lt rb e.symm).1; omega))
                clear ho6 hg6
                go_wp2_with fail
                go_roundg (s.size + 1 - sp)
                case measure => omega
                case rel => exact ⟨sp, F, acc ++ es, v6, rfl, rfl, by omega, by omega, by rw [List.length_append]; omega, Lib.hid HV.out, R6.out, O6.out, G6.out⟩
              · have HV := Lib.hid (show X = (se, [], 0) by rw [HX3.out, if_neg hse])
                have hne : (se != 0) = true := by simpa using hse
                have HE := Lib.hid hse
                clear HX3 HSB hse
                go_wp2_with (first
                  | (go_at_call 71; refine CT.out.mono ?_; rintro e w1 ⟨rfl, hr1, hg1⟩; have R1 := Lib.hid (show Rdr s tq2 rb w1 from by rw [if_pos (by trivial)] at hr1; exact hr1); have G1 := Lib.hid hg1; have B1 := Lib.hid (Blk.fresh w1 #[.int .i64 kd2, .int .i64 f2, .string ⟨st2.toArray⟩, .bool wh2, .int .i64 fr2, .int .i64 tq2] 123); clear hr1 hg1)
                  | (go_at_call 180; refine (CI2.out _).mono ?_; rintro e w2 ⟨rfl, hk2⟩; have B2 := Lib.hid (B1.out.kept hk2); obtain ⟨b0, b1, b2, b3, b4, b5⟩ := B2.out.cells6; have K2 := Lib.hid (((Kept.refl w1).allocO (.cells #[.int .i64 kd2, .int .i64 f2, .string ⟨st2.toArray⟩, .bool wh2, .int .i64 fr2, .int .i64 tq2] 123 (0, 0))).trans hk2); clear hk2)
                  | (go_at_call 72; refine (CW.out _).mono ?_; rintro e w3 ⟨rfl, hk3⟩; have B3 := Lib.hid (B2.out.kept hk3); obtain ⟨d0, d1, d2, d3, d4, d5⟩ := B3.out.cells6; have K3 := Lib.hid (K2.out.trans hk3); clear hk3)
                  | (go_at_call 73; refine (CV.out _).mono ?_; rintro e w4 ⟨rfl, hk4⟩; have K4 := Lib.hid (K3.out.trans hk4); have R4 := Lib.hid (R1.out.kept K4.out); have G4 := Lib.hid (gb_thenK G1.out K4.out); have M4 := Lib.hid (RR.out.max MM.out G4.out); clear hk4)
                  | (go_at_call 181; refine (CS.out _ M4.out R4.out).mono ?_; rintro e w5 ⟨v5, rfl, ho5, ⟨a5, ha5, hr5⟩, hg5⟩; obtain ⟨p5, c5, rfl, hsl5⟩ := ho5.sl; have R5 := Lib.hid hr5; have G5 := Lib.hid (gb_trans GR.out (gb_trans G4.out hg5)); clear hr5 hg5 ho5 ha5 hsl5))
                go_ret2
                exact ⟨_, by rw [HV.out]; first | done | rfl, by rw [HV.out]; exact World.ownsRow_nil _ _ _ _, ⟨a5, fun h => by rw [HV.out] at h; exact absurd h HE.out, R5.out⟩, G5.out⟩
        · have HV := Lib.hid (show X = (ve, [], 0) by rw [HX2.out, if_neg hve])
          have hne : (ve != 0) = true := by simpa using hve
          have HE := Lib.hid hve
          clear HX2 HUB2 HWF hve CI CW CV HS
          go_wp2_with (go_at_call 71; refine CT.out.mono ?_; rintro e w1 ⟨rfl, hr1, hg1⟩; have R1 := Lib.hid hr1; have G1 := Lib.hid hg1; clear hr1 hg1)
          go_ret2
          exact ⟨_, by rw [HV.out]; first | done | rfl, by rw [HV.out]; exact World.ownsRow_nil _ _ _ _, ⟨_, fun h => by rw [HV.out] at h; exact absurd h HE.out, R1.out.kept ((Kept.refl w1).allocO _)⟩, gb_trans GR.out (gb_thenK G1.out ((Kept.refl w1).allocO _))⟩
  · have HV := Lib.hid (show X = (ue, [], 0) by rw [HX.out, if_neg he])
    have hne : (ue != 0) = true := by simpa using he
    have HE := Lib.hid he
    clear HX HUB he
    go_enter Tryz.func154, Tryz.ntmps154
    go_wp2_with (go_at_call 71; refine CT.out.mono ?_; rintro e w1 ⟨rfl, hr1, hg1⟩; have R1 := Lib.hid hr1; have G1 := Lib.hid hg1; clear hr1 hg1)
    go_ret2
    exact ⟨_, by rw [HV.out]; first | done | rfl, by rw [HV.out]; exact World.ownsRow_nil _ _ _ _, ⟨_, fun h => by rw [HV.out] at h; exact absurd h HE.out, R1.out.kept ((Kept.refl w1).allocO _)⟩, gb_thenK G1.out ((Kept.refl w1).allocO _)⟩

end Go.Proofs.YtoablpaehhjchaaGreatDoor

namespace Go.Proofs.YtoablpaehhjchaaGreatDoor
open Go.RowKit Rx
set_option linter.unusedSimpArgs false
set_option linter.unusedVariables false

theorem Ents.setOther {T : TypeId} {w : World} {B : Nat} {v : Value} {l : List Xent} (h : Ents T w B v l) {k : Nat} (hk : k < B) (o : Nat) (u : Value) : Ents T (w.setCell ⟨k, o, none⟩ u) B v l :=
  h.gb (gb_setAt w k o u) (by cases hv : v.ownBlock with
    | none => exact .inl rfl
    | some g => exact .inr (fun e => by have := (h.lt g hv).1; injection e with e; omega))
theorem Ents.alloc {T : TypeId} {w : World} {B : Nat} {v : Value} {l : List Xent} (h : Ents T w B v l) (o : Obj) : Ents T (w.alloc o) B v l := h.kept ((Kept.refl w).allocO o)
theorem Ents.drew {T : TypeId} {w : World} {B : Nat} {v : Value} {l : List Xent} (h : Ents T w B v l) : Ents T w.drew B v l := h.kept ((Kept.refl w).drew)

end Go.Proofs.YtoablpaehhjchaaGreatDoor
