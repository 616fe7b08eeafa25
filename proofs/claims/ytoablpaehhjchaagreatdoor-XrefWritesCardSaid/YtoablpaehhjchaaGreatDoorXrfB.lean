/-
  A table's text, token by token: what package xref's reader answers.
  Whole numbers and entries of a table's text.
-/
import Derived.Test.YtoablpaehhjchaaGreatDoorCosT
import Derived.Test.YtoablpaehhjchaaGreatDoorXrfM
import Derived.Test.YtoablpaehhjchaaGreatDoorXrfRow
namespace Go.Proofs.YtoablpaehhjchaaGreatDoor
open Go.RowKit Rx
set_option linter.unusedSimpArgs false
set_option linter.unusedVariables false
attribute [local go_sem ↓] Go.wp_at_zero Go.wp_at_succ

/-- A reader: block rb holds the text and the place. -/
def Rdr (s : ByteArray) (a : Int) (rb : Nat) (w : World) : Prop := Blk w rb #[.string s, .int .i64 a] 93
theorem Rdr.kept {s : ByteArray} {a : Int} {rb : Nat} {w w' : World} (h : Rdr s a rb w) (k : Kept w w') : Rdr s a rb w' := Blk.kept h k
theorem Rdr.lt {s : ByteArray} {a : Int} {rb : Nat} {w : World} (h : Rdr s a rb w) : rb < w.heap.size := Blk.lt h
theorem Rdr.other {s : ByteArray} {a : Int} {rb : Nat} {w : World} (h : Rdr s a rb w) {k o : Nat} (n : rb ≠ k) (v : Value) : Rdr s a rb (w.setCell ⟨k, o, none⟩ v) := Blk.other h n v
theorem Rdr.alloc {s : ByteArray} {a : Int} {rb : Nat} {w : World} (h : Rdr s a rb w) (o : Obj) : Rdr s a rb (w.alloc o) := Blk.alloc h o
theorem Rdr.drew {s : ByteArray} {a : Int} {rb : Nat} {w : World} (h : Rdr s a rb w) : Rdr s a rb w.drew := h
theorem Rdr.drewN {s : ByteArray} {a : Int} {rb : Nat} {w : World} (h : Rdr s a rb w) (n : Nat) : Rdr s a rb (w.drewN n) := h
theorem Rdr.move {s : ByteArray} {a : Int} {rb : Nat} {w : World} (h : Rdr s a rb w) (v : Int) : Rdr s v rb (w.setCell ⟨rb, 1, none⟩ (.int .i64 v)) := by
  have := Blk.set h 1 (.int .i64 v)
  simpa [Rdr] using this
theorem Rdr.gb {s : ByteArray} {a : Int} {rb : Nat} {w w' : World} (h : Rdr s a rb w) {r : Option Nat} (g : w.grownBy w' r) (n : some rb ≠ r) : Rdr s a rb w' := (g.block rb h.lt n).trans h
theorem max_gb {w w' : World} {rb : Nat} (h : HasMax w) (g : w.grownBy w' (some rb)) {v : ByteArray} (hr : w.cell? ⟨rb, 0, none⟩ = some (.string v)) : HasMax w' := h.gb g hr
theorem Rdr.max {s : ByteArray} {a : Int} {rb : Nat} {w w' : World} (h : Rdr s a rb w) (hm : HasMax w) (g : w.grownBy w' (some rb)) : HasMax w' := hm.gb g (Blk.cell h 0)
theorem rdrS {w wx : World} {b c : Nat} {t u : TypeId} {x0 x1 : Value} {cs : Array Value} (h : In w [(c, cs, u), (b, #[x0, x1], t)] wx) :
    wx.cell? ⟨b, 0, none⟩ = some x0 ∧ wx.cell? ⟨b, 1, none⟩ = some x1 :=
  ⟨(h.mem (List.mem_cons_of_mem _ List.mem_cons_self)).cell 0, (h.mem (List.mem_cons_of_mem _ List.mem_cons_self)).cell 1⟩

set_option maxRecDepth 100000 in
set_option maxHeartbeats 4000000 in
theorem rtoken_any (s : ByteArray) (a : Int) (rb : Nat) (w : World) (hs : s.size ≤ 4294967295) (hm : HasMax w) (hr : Rdr s a rb w) (T : Int × Lx.Tok) (hT : T = tokX s.data.toList a) :
    Calls Tryz.prog 71 #[.pointer (some ⟨rb, 0, none⟩)] w fun e w' =>
      e = .returned (.tuple #[tkV T.2, .int .i64 T.1]) ∧ Rdr s (if T.1 = 0 then (T.2.to : Int) else a) rb w' ∧ w.grownBy w' (some rb) := by
  obtain ⟨U, hU⟩ : ∃ U, U = Lx.nextV s.data.toList a := ⟨_, rfl⟩
  unfold tokX at hT
  rw [← hU] at hT
  obtain ⟨er, kd, fv, st, wh, fr, tq⟩ := U
  have HT := Lib.hid hT
  have HU := Lib.hid hU
  have HM := Lib.hid hm
  have HR := Lib.hid hr
  have hrb := hr.lt
  have HX := Lib.hid ((In.start w).cons hr)
  have HX1 := Lib.hid (In.fresh HX.out #[.int .i64 0, .int .i64 0, .string ⟨#[]⟩, .bool false, .int .i64 0, .int .i64 0] 123)
  clear HX
  have HX := HX1
  clear HX1
  have rf := Blk.free hr
  have h0 := Blk.cell hr 0
  have h1 := Blk.cell hr 1
  simp at h0 h1
  have ne0 : w.heap.size ≠ rb := by omega
  have ne1 : w.heap.size + 1 ≠ rb := by omega
  have HW := Lib.hid (show w.heap.size ≤ w.heap.size + 1 from Nat.le_succ _)
  have NT := Lib.hid (show ∀ x ∈ [((w.heap.size : Nat), (#[.int .i64 0, .int .i64 0, .string ⟨#[]⟩, .bool false, .int .i64 0, .int .i64 0] : Array Value), (123 : TypeId)), ((rb : Nat), (#[.string s, .int .i64 a] : Array Value), (93 : TypeId))], x.1 ≠ w.heap.size + 1 from fun x hx => by
    simp at hx
    rcases hx with rfl | rfl <;> simp <;> omega)
  have CN := Lib.hid (show ∀ wx, Kept w wx → Calls Tryz.prog 95 #[.string s, .int .i64 a] wx fun e w' => e = .returned (.tuple #[.agg #[.int .i64 kd, .int .i64 fv, .string ⟨st.toArray⟩, .bool wh, .int .i64 fr, .int .i64 tq], .int .i64 er]) ∧ Kept wx w' from
    fun wx hk => Next_any s a wx (by omega) (hm.kept hk) _ hU)
  clear hT hm hr hU
  by_cases he : er = 0
  · subst he
    by_cases hkd : kd = 0
    · subst hkd
      have HV := Lib.hid (show T = (4, Lx.zero) by rw [HT.out]; rfl)
      clear HT
      obtain ⟨Te, Tt⟩ := T
      obtain ⟨rfl, rfl⟩ := Prod.mk.inj HV.out
      go_enter Tryz.func71, Tryz.ntmps71
      go_wp2_with fail
      go_region_held3 (fun w' => w'.cell? ⟨rb, 0, none⟩ = some (.string s) ∧ w'.cell? ⟨rb, 1, none⟩ = some (.int .i64 a)) (go_keep)
        (first | (go_at_call 95; (first | (with_reducible refine (CN.out _ (In.k HX.out)).mono ?_) | (with_reducible refine (CN.out _ (In.k HX.out.drew)).mono ?_) | (with_reducible refine (CN.out _ (In.k (HX.out.alloc _))).mono ?_) | (with_reducible refine (CN.out _ (In.k (HX.out.alloc _).drew)).mono ?_)); rintro e wn ⟨rfl, kn⟩; (first | ((with_reducible have HZ := Lib.hid (Blk.kept (Blk.drew (Blk.fresh' (b := w.heap.size + 1) #[.int .i64 0, .int .i64 0, .string ⟨#[]⟩, .bool false, .int .i64 0, .int .i64 0] 123 (by simp))) kn)); (with_reducible have HX := Lib.hid (In.kept (In.drew (In.alloc HX.out (.cells #[.int .i64 0, .int .i64 0, .string ⟨#[]⟩, .bool false, .int .i64 0, .int .i64 0] 123 (0, 0)))) kn)); obtain ⟨y0, y1, y2, y3, y4, y5⟩ := HZ.out.cells6; have yf := HZ.out.free; obtain ⟨r0, r1, r2, r3, r4, r5⟩ := (HX.out.mem List.mem_cons_self).cells6; have rz := (HX.out.mem List.mem_cons_self).free; have hz := (HX.out.mem List.mem_cons_self).lt; obtain ⟨c0, c1⟩ := rdrS HX.out) | ((with_reducible have HX := Lib.hid (In.kept HX.out kn)); obtain ⟨r0, r1, r2, r3, r4, r5⟩ := (HX.out.mem List.mem_cons_self).cells6; have rz := (HX.out.mem List.mem_cons_self).free; have hz := (HX.out.mem List.mem_cons_self).lt; obtain ⟨c0, c1⟩ := rdrS HX.out) | ((with_reducible have HX := Lib.hid (In.kept (In.drew HX.out) kn)); obtain ⟨r0, r1, r2, r3, r4, r5⟩ := (HX.out.mem List.mem_cons_self).cells6; have rz := (HX.out.mem List.mem_cons_self).free; have hz := (HX.out.mem List.mem_cons_self).lt; obtain ⟨c0, c1⟩ := rdrS HX.out))))
      all_goals
        have HR3 := Lib.hid (show Rdr s a rb wn from HX.out.mem (List.mem_cons_of_mem _ List.mem_cons_self))
        have rfn := Blk.free HR3.out
        have rbz := HR3.out.lt
        have HG3 := Lib.hid (gb_kept (In.k HX.out) (some rb))
        go_wp2_with fail
        refine bodyPost_ret (v := .tuple #[.agg #[.int .i64 0, .int .i64 0, .string ⟨#[]⟩, .bool false, .int .i64 0, .int .i64 0], .int .i64 4]) ?_ rfl ⟨by rfl, ?_, ?_⟩
        · simp [results, Tryz.results71, go_sem, r0, r1, r2, r3, r4, r5, hz]
        · repeat (with_reducible first | exact HR3.out | refine Rdr.drew ?_ | refine Rdr.alloc ?_ _ | refine Rdr.other ?_ (by first | omega | exact Ne.symm ‹_›) _)
        · repeat (with_reducible first | exact HG3.out | refine gb_own ?_ _ _ | refine gb_drew ?_ | refine gb_alloc ?_ _ | refine gb_fresh ?_ (by first | exact Nat.le_refl _ | exact Nat.le_succ _) _)
    · have HV := Lib.hid (show T = (0, ⟨kd, fv, st, wh, fr, tq⟩) by rw [HT.out, if_pos rfl, if_neg hkd])
      have hkb : (kd == 0) = false := by simpa using hkd
      clear HT hkd
      obtain ⟨Te, Tt⟩ := T
      obtain ⟨rfl, rfl⟩ := Prod.mk.inj HV.out
      rw [if_pos rfl]
      go_enter Tryz.func71, Tryz.ntmps71
      go_wp2_with fail
      go_region_held3 (fun w' => w'.cell? ⟨rb, 0, none⟩ = some (.string s) ∧ w'.cell? ⟨rb, 1, none⟩ = some (.int .i64 a)) (go_keep)
        (first | (go_at_call 95; (first | (with_reducible refine (CN.out _ (In.k HX.out)).mono ?_) | (with_reducible refine (CN.out _ (In.k HX.out.drew)).mono ?_) | (with_reducible refine (CN.out _ (In.k (HX.out.alloc _))).mono ?_) | (with_reducible refine (CN.out _ (In.k (HX.out.alloc _).drew)).mono ?_)); rintro e wn ⟨rfl, kn⟩; (first | ((with_reducible have HZ := Lib.hid (Blk.kept (Blk.drew (Blk.fresh' (b := w.heap.size + 1) #[.int .i64 0, .int .i64 0, .string ⟨#[]⟩, .bool false, .int .i64 0, .int .i64 0] 123 (by simp))) kn)); (with_reducible have HX := Lib.hid (In.kept (In.drew (In.alloc HX.out (.cells #[.int .i64 0, .int .i64 0, .string ⟨#[]⟩, .bool false, .int .i64 0, .int .i64 0] 123 (0, 0)))) kn)); obtain ⟨y0, y1, y2, y3, y4, y5⟩ := HZ.out.cells6; have yf := HZ.out.free; obtain ⟨r0, r1, r2, r3, r4, r5⟩ := (HX.out.mem List.mem_cons_self).cells6; have rz := (HX.out.mem List.mem_cons_self).free; have hz := (HX.out.mem List.mem_cons_self).lt; obtain ⟨c0, c1⟩ := rdrS HX.out) | ((with_reducible have HX := Lib.hid (In.kept HX.out kn)); obtain ⟨r0, r1, r2, r3, r4, r5⟩ := (HX.out.mem List.mem_cons_self).cells6; have rz := (HX.out.mem List.mem_cons_self).free; have hz := (HX.out.mem List.mem_cons_self).lt; obtain ⟨c0, c1⟩ := rdrS HX.out) | ((with_reducible have HX := Lib.hid (In.kept (In.drew HX.out) kn)); obtain ⟨r0, r1, r2, r3, r4, r5⟩ := (HX.out.mem List.mem_cons_self).cells6; have rz := (HX.out.mem List.mem_cons_self).free; have hz := (HX.out.mem List.mem_cons_self).lt; obtain ⟨c0, c1⟩ := rdrS HX.out))))
      all_goals
        have HR3 := Lib.hid (show Rdr s a rb wn from HX.out.mem (List.mem_cons_of_mem _ List.mem_cons_self))
        have rfn := Blk.free HR3.out
        have rbz := HR3.out.lt
        have HG3 := Lib.hid (gb_kept (In.k HX.out) (some rb))
        go_wp2_with fail
        refine bodyPost_ret (v := .tuple #[.agg #[.int .i64 kd, .int .i64 fv, .string ⟨st.toArray⟩, .bool wh, .int .i64 fr, .int .i64 tq], .int .i64 0]) ?_ rfl ⟨by rfl, ?_, ?_⟩
        · simp [results, Tryz.results71, go_sem, r0, r1, r2, r3, r4, r5, hz]
        · repeat (with_reducible first | exact HR3.out | refine Rdr.move (a := a) ?_ _ | refine Rdr.drew ?_ | refine Rdr.alloc ?_ _ | refine Rdr.other ?_ (by first | omega | exact Ne.symm ‹_›) _)
        · repeat (with_reducible first | exact HG3.out | refine gb_own ?_ _ _ | refine gb_drew ?_ | refine gb_alloc ?_ _ | refine gb_fresh ?_ (by first | exact Nat.le_refl _ | exact Nat.le_succ _) _)
  · have HZT := Lib.hid (show (⟨kd, fv, st, wh, fr, tq⟩ : Lx.Tok) = Lx.zero by
      have := Lx.next_zero_of s.data.toList a (by rw [← HU.out]; exact he)
      rw [← HU.out] at this; exact this)
    have HV := Lib.hid (show T = (er, Lx.zero) by rw [HT.out, if_neg he])
    have hne : (er != 0) = true := by simpa using he
    have hnb : (er == 0) = false := by simpa using he
    have HE := Lib.hid he
    have z0 : kd = 0 := congrArg Lx.Tok.kind HZT.out
    have z1 : fv = 0 := congrArg Lx.Tok.f HZT.out
    have z2 : st = [] := congrArg Lx.Tok.s HZT.out
    have z3 : wh = false := congrArg Lx.Tok.whole HZT.out
    have z4 : fr = 0 := congrArg Lx.Tok.frm HZT.out
    have z5 : tq = 0 := congrArg Lx.Tok.to HZT.out
    clear HZT HT
    subst z0 z1 z2 z3 z4 z5
    obtain ⟨Te, Tt⟩ := T
    obtain ⟨e1, e2⟩ := Prod.mk.inj HV.out
    subst e1 e2
    clear he
    go_enter Tryz.func71, Tryz.ntmps71
    go_wp2_with fail
    go_region_held3 (fun w' => w'.cell? ⟨rb, 0, none⟩ = some (.string s) ∧ w'.cell? ⟨rb, 1, none⟩ = some (.int .i64 a)) (go_keep)
      (first | (go_at_call 95; (first | (with_reducible refine (CN.out _ (In.k HX.out)).mono ?_) | (with_reducible refine (CN.out _ (In.k HX.out.drew)).mono ?_) | (with_reducible refine (CN.out _ (In.k (HX.out.alloc _))).mono ?_) | (with_reducible refine (CN.out _ (In.k (HX.out.alloc _).drew)).mono ?_)); rintro e wn ⟨rfl, kn⟩; (first | ((with_reducible have HZ := Lib.hid (Blk.kept (Blk.drew (Blk.fresh' (b := w.heap.size + 1) #[.int .i64 0, .int .i64 0, .string ⟨#[]⟩, .bool false, .int .i64 0, .int .i64 0] 123 (by simp))) kn)); (with_reducible have HX := Lib.hid (In.kept (In.drew (In.alloc HX.out (.cells #[.int .i64 0, .int .i64 0, .string ⟨#[]⟩, .bool false, .int .i64 0, .int .i64 0] 123 (0, 0)))) kn)); obtain ⟨y0, y1, y2, y3, y4, y5⟩ := HZ.out.cells6; have yf := HZ.out.free; obtain ⟨r0, r1, r2, r3, r4, r5⟩ := (HX.out.mem List.mem_cons_self).cells6; have rz := (HX.out.mem List.mem_cons_self).free; have hz := (HX.out.mem List.mem_cons_self).lt; obtain ⟨c0, c1⟩ := rdrS HX.out) | ((with_reducible have HX := Lib.hid (In.kept HX.out kn)); obtain ⟨r0, r1, r2, r3, r4, r5⟩ := (HX.out.mem List.mem_cons_self).cells6; have rz := (HX.out.mem List.mem_cons_self).free; have hz := (HX.out.mem List.mem_cons_self).lt; obtain ⟨c0, c1⟩ := rdrS HX.out) | ((with_reducible have HX := Lib.hid (In.kept (In.drew HX.out) kn)); obtain ⟨r0, r1, r2, r3, r4, r5⟩ := (HX.out.mem List.mem_cons_self).cells6; have rz := (HX.out.mem List.mem_cons_self).free; have hz := (HX.out.mem List.mem_cons_self).lt; obtain ⟨c0, c1⟩ := rdrS HX.out))))
    all_goals
      have HR3 := Lib.hid (show Rdr s a rb wn from HX.out.mem (List.mem_cons_of_mem _ List.mem_cons_self))
      have rfn := Blk.free HR3.out
      have rbz := HR3.out.lt
      have HG3 := Lib.hid (gb_kept (In.k HX.out) (some rb))
      go_wp2_with fail
      refine bodyPost_ret (v := .tuple #[.agg #[.int .i64 0, .int .i64 0, .string ⟨#[]⟩, .bool false, .int .i64 0, .int .i64 0], .int .i64 Te]) ?_ rfl ⟨by rfl, ?_, ?_⟩
      · simp [results, Tryz.results71, go_sem, r0, r1, r2, r3, r4, r5, hz]
      · repeat (with_reducible first | exact HR3.out | refine Rdr.drew ?_ | refine Rdr.alloc ?_ _ | refine Rdr.other ?_ (by first | omega | exact Ne.symm ‹_›) _)
      · repeat (with_reducible first | exact HG3.out | refine gb_own ?_ _ _ | refine gb_drew ?_ | refine gb_alloc ?_ _ | refine gb_fresh ?_ (by first | exact Nat.le_refl _ | exact Nat.le_succ _) _)

end Go.Proofs.YtoablpaehhjchaaGreatDoor

namespace Go.Proofs.YtoablpaehhjchaaGreatDoor
open Go.RowKit Rx
set_option linter.unusedSimpArgs false
set_option linter.unusedVariables false

theorem ret_bool2 {a b : Bool} (h : a = b) : Ending.returned (.bool a) = .returned (.bool b) := by rw [h]
theorem xisWord_any (t : Lx.Tok) (l : List UInt8) (w : World) :
    Calls Tryz.prog 180 #[tkV t, .string ⟨l.toArray⟩] w fun e w' => e = .returned (.bool (isWd t l)) ∧ Kept w w' := by
  obtain ⟨k, f, s, wh, fr, tq⟩ := t
  have HV := Lib.hid (show isWd ⟨k, f, s, wh, fr, tq⟩ l = (k == 8 && s == l) from rfl)
  unfold tkV
  simp only []
  cases h1 : (k == 8)
  all_goals
    go_enter Tryz.func180, Tryz.ntmps180
    go_wp2_with fail
    go_ret
    exact ⟨ret_bool2 (by rw [HV.out, h1]; first | done | rfl | simp), (Kept.refl w).alloc _ _⟩
theorem isWhole_any (t : Lx.Tok) (w : World) :
    Calls Tryz.prog 72 #[tkV t] w fun e w' => e = .returned (.bool (isWh t)) ∧ Kept w w' := by
  obtain ⟨k, f, s, wh, fr, tq⟩ := t
  have HV := Lib.hid (show isWh ⟨k, f, s, wh, fr, tq⟩ = (k == 1 && wh && decide (0 ≤ f)) from rfl)
  unfold tkV
  simp only []
  cases h1 : (k == 1)
  · go_enter Tryz.func72, Tryz.ntmps72
    go_wp2_with fail
    go_ret
    exact ⟨ret_bool2 (by rw [HV.out, h1]; first | done | rfl | simp), (Kept.refl w).alloc _ _⟩
  · cases wh
    · go_enter Tryz.func72, Tryz.ntmps72
      go_wp2_with fail
      go_ret
      exact ⟨ret_bool2 (by rw [HV.out, h1]; first | done | rfl | simp), (Kept.refl w).alloc _ _⟩
    · go_enter Tryz.func72, Tryz.ntmps72
      go_wp2_with fail
      go_ret
      exact ⟨ret_bool2 (by rw [HV.out, h1]; first | done | rfl | simp), (Kept.refl w).alloc _ _⟩
theorem wholeOf_any (t : Lx.Tok) (w : World) (h0 : -2147483648 ≤ t.f) (h1 : t.f ≤ 2147483648) :
    Calls Tryz.prog 73 #[tkV t] w fun e w' => e = .returned (.int .i64 (t.f.tdiv 1000)) ∧ Kept w w' := by
  obtain ⟨k, f, s, wh, fr, tq⟩ := t
  simp only [] at h0 h1
  have hq : -2147483648 ≤ f.tdiv 1000 ∧ f.tdiv 1000 ≤ 2147483648 := by
    have := Int.natAbs_tdiv_le_natAbs f 1000
    omega
  have i1 : IntKind.i64.wrap (f.tdiv 1000) = f.tdiv 1000 := IntWalk.i64_in _ (by omega)
  unfold tkV
  simp only []
  go_enter Tryz.func73, Tryz.ntmps73
  go_wp2_with fail
  go_ret
  exact ⟨by first | rfl | (congr 2), (Kept.refl w).alloc _ _⟩
theorem tokX_f (l : List UInt8) (a : Int) : -2147483648 ≤ (tokX l a).2.f ∧ (tokX l a).2.f ≤ 2147483648 := by
  have := Lx.next_len l a
  unfold tokX
  split
  · split
    · exact ⟨show (-2147483648 : Int) ≤ 0 by decide, show (0 : Int) ≤ 2147483648 by decide⟩
    · exact ⟨this.1, this.2.1⟩
  · exact ⟨show (-2147483648 : Int) ≤ 0 by decide, show (0 : Int) ≤ 2147483648 by decide⟩

set_option maxRecDepth 100000 in
set_option maxHeartbeats 2000000 in
theorem whole_any (s : ByteArray) (a : Int) (rb : Nat) (w : World) (hs : s.size ≤ 4294967295) (hm : HasMax w) (hr : Rdr s a rb w) (X : Int × Int × Nat) (hX : X = wholeX s.data.toList a) :
    Calls Tryz.prog 43 #[.pointer (some ⟨rb, 0, none⟩)] w fun e w' =>
      e = .returned (.tuple #[.int .i64 X.2.1, .int .i64 X.1]) ∧ (∃ a' : Int, (X.1 = 0 → a' = X.2.2) ∧ Rdr s a' rb w') ∧ w.grownBy w' (some rb) := by
  have hf := tokX_f s.data.toList a
  obtain ⟨T, hT⟩ : ∃ T, T = tokX s.data.toList a := ⟨_, rfl⟩
  rw [← hT] at hf
  have CT := Lib.hid (rtoken_any s a rb w hs hm hr T hT)
  have HX := Lib.hid (show X = if T.1 = 0 then (if isWh T.2 then (0, T.2.f.tdiv 1000, T.2.to) else (3, 0, 0)) else (T.1, 0, 0) by rw [hX, wholeX, ← hT])
  clear hX hm hr hT
  obtain ⟨te, kd, f, st, wh, fr, tq⟩ := T
  simp only [] at hf
  have CW := Lib.hid (fun W => isWhole_any ⟨kd, f, st, wh, fr, tq⟩ W)
  have CV := Lib.hid (fun W => wholeOf_any ⟨kd, f, st, wh, fr, tq⟩ W hf.1 hf.2)
  unfold tkV at CT CW CV
  simp only [] at CT CW CV HX
  clear hf
  by_cases he : te = 0
  · subst he
    cases hw : isWh ⟨kd, f, st, wh, fr, tq⟩ with
    | true =>
      have HV := Lib.hid (show X = (0, f.tdiv 1000, tq) by rw [HX.out, if_pos rfl, if_pos hw])
      rw [hw] at CW
      obtain ⟨n, hn⟩ : ∃ n, n = f.tdiv 1000 := ⟨_, rfl⟩
      rw [← hn] at HV CV
      clear hw HX hn
      go_enter Tryz.func43, Tryz.ntmps43
      go_wp2_with (first | (go_at_call 71; refine CT.out.mono ?_; rintro e w1 ⟨rfl, hr1, hg1⟩; have R1 := Lib.hid hr1; have G1 := Lib.hid hg1; have B1 := Lib.hid (Blk.fresh w1 #[.int .i64 kd, .int .i64 f, .string ⟨st.toArray⟩, .bool wh, .int .i64 fr, .int .i64 tq] 123); clear hr1 hg1) | (go_at_call 72; refine (CW.out _).mono ?_; rintro e w2 ⟨rfl, hk2⟩; obtain ⟨b0, b1, b2, b3, b4, b5⟩ := (B1.out.kept hk2).cells6; have K2 := Lib.hid hk2; clear hk2) | (go_at_call 73; refine (CV.out _).mono ?_; rintro e w3 ⟨rfl, hk3⟩))
      go_ret2
      have KK := ((Kept.refl w1).allocO _).trans (K2.out.trans hk3)
      refine ⟨by rw [HV.out]; first | done | rfl, ⟨(tq : Int), fun _ => by rw [HV.out], by have h := R1.out; rw [if_pos trivial] at h; exact h.kept KK⟩, gb_thenK G1.out KK⟩
    | false =>
      have HV := Lib.hid (show X = (3, 0, 0) by rw [HX.out, if_pos rfl, hw]; rfl)
      rw [hw] at CW
      clear hw HX
      go_enter Tryz.func43, Tryz.ntmps43
      go_wp2_with (first | (go_at_call 71; refine CT.out.mono ?_; rintro e w1 ⟨rfl, hr1, hg1⟩; have R1 := Lib.hid hr1; have G1 := Lib.hid hg1; clear hr1 hg1) | (go_at_call 72; refine (CW.out _).mono ?_; rintro e w2 ⟨rfl, hk2⟩))
      go_ret2
      have KK := ((Kept.refl w1).allocO _).trans hk2
      refine ⟨by rw [HV.out]; first | done | rfl, ⟨_, fun h => by rw [HV.out] at h; exact absurd h (by decide), R1.out.kept KK⟩, gb_thenK G1.out KK⟩
  · have HV := Lib.hid (show X = (te, 0, 0) by rw [HX.out, if_neg he])
    have hne : (te != 0) = true := by simpa using he
    have HE := Lib.hid he
    clear he HX
    go_enter Tryz.func43, Tryz.ntmps43
    go_wp2_with (go_at_call 71; refine CT.out.mono ?_; rintro e w1 ⟨rfl, hr1, hg1⟩; have R1 := Lib.hid hr1; have G1 := Lib.hid hg1; clear hr1 hg1)
    go_ret2
    refine ⟨by rw [HV.out]; first | done | rfl, ⟨_, fun h => by rw [HV.out] at h; exact absurd h HE.out, R1.out.kept ((Kept.refl w1).allocO _)⟩, gb_thenK G1.out ((Kept.refl w1).allocO _)⟩

theorem gbOther {B b : Nat} {w w' : World} {cs : Array Value} {t : TypeId} (h : Blk w b cs t) (g : w.grownBy w' (some B)) (n : b ≠ B) : Blk w' b cs t := (g.block b h.lt (by simpa using n)).trans h

set_option maxRecDepth 100000 in
set_option maxHeartbeats 4000000 in
theorem entry_any (s : ByteArray) (a : Int) (n : Int) (rb : Nat) (w : World) (hs : s.size ≤ 4294967295) (hm : HasMax w) (hr : Rdr s a rb w) (X : Int × Xent × Nat) (hX : X = entX s.data.toList a n) :
    Calls Tryz.prog 207 #[.pointer (some ⟨rb, 0, none⟩), .int .i64 n] w fun e w' =>
      e = .returned (.tuple #[xentV X.2.1, .int .i64 X.1]) ∧ (∃ a' : Int, (X.1 = 0 → a' = X.2.2) ∧ Rdr s a' rb w') ∧ w.grownBy w' (some rb) := by
  have hrb := hr.lt
  have KZ := Lib.hid ((Kept.refl w).alloc #[.int .i64 0, .int .i64 0, .int .i64 0, .bool false] 65)
  have BZ := Lib.hid (Blk.fresh w #[.int .i64 0, .int .i64 0, .int .i64 0, .bool false] 65)
  have nez : w.heap.size ≠ rb := by omega
  have RZ := Lib.hid (hr.kept KZ.out)
  have MZ := Lib.hid (hm.kept KZ.out)
  obtain ⟨P, hP⟩ : ∃ P, P = wholeX s.data.toList a := ⟨_, rfl⟩
  have CP := Lib.hid (whole_any s a rb _ hs MZ.out RZ.out P hP)
  obtain ⟨Q, hQ⟩ : ∃ Q, Q = wholeX s.data.toList P.2.2 := ⟨_, rfl⟩
  obtain ⟨U, hU⟩ : ∃ U, U = tokX s.data.toList Q.2.2 := ⟨_, rfl⟩
  have CQ := Lib.hid (fun W hm hr => whole_any s P.2.2 rb W hs hm hr Q hQ)
  have CU := Lib.hid (fun W hm hr => rtoken_any s Q.2.2 rb W hs hm hr U hU)
  have CI := Lib.hid (fun l W => xisWord_any U.2 l W)
  have HX := Lib.hid (show X = if P.1 = 0 then (if Q.1 = 0 then entT U n P.2.1 Q.2.1 else (Q.1, zeroE, 0)) else (P.1, zeroE, 0) by rw [hX, entX, ← hP, ← hQ, ← hU])
  clear hX hP hQ hU hm hr
  obtain ⟨pe, pv, pt⟩ := P
  obtain ⟨qe, qv, qt⟩ := Q
  obtain ⟨ue, kd, f, st, wh, fr, tq⟩ := U
  unfold tkV at CU CI
  simp only [] at CP CQ CU CI HX
  by_cases h1 : pe = 0
  · subst h1
    by_cases h2 : qe = 0
    · subst h2
      by_cases h3 : ue = 0
      · subst h3
        have HY := Lib.hid (show X = if isWd ⟨kd, f, st, wh, fr, tq⟩ [110] || isWd ⟨kd, f, st, wh, fr, tq⟩ [102] then (0, ⟨n, pv, qv, st == [110]⟩, tq) else (3, zeroE, 0) by rw [HX.out]; rfl)
        have C1 := Lib.hid (CI.out [110])
        have C2 := Lib.hid (CI.out [102])
        clear HX CI
        have TAIL : ∀ (X0 : Int × Xent × Nat), X = X0 → X0 = (0, ⟨n, pv, qv, st == [110]⟩, tq) → ∀ w1, Rdr s tq rb w1 → X = (0, ⟨n, pv, qv, st == [110]⟩, tq) := fun X0 h1 h2 _ _ => h1.trans h2
        cases w1 : isWd ⟨kd, f, st, wh, fr, tq⟩ [110] with
        | true =>
          rw [w1] at C1
          have HV := Lib.hid (show X = (0, ⟨n, pv, qv, st == [110]⟩, tq) by rw [HY.out, w1]; rfl)
          clear HY w1 TAIL
          go_enter Tryz.func207, Tryz.ntmps207
          go_wp2_with (first
            | (go_at_call 43; first | (with_reducible refine CP.out.mono ?_; rintro e w1 ⟨rfl, ⟨a1, ha1, hr1⟩, hg1⟩; obtain rfl := ha1 (by trivial); have R1 := Lib.hid hr1; have G1 := Lib.hid hg1; have M1 := Lib.hid (RZ.out.max MZ.out hg1); have Z1 := Lib.hid (gbOther BZ.out hg1 nez); clear hr1 hg1 ha1) | (refine (CQ.out _ M1.out R1.out).mono ?_; rintro e w2 ⟨rfl, ⟨a2, ha2, hr2⟩, hg2⟩; obtain rfl := ha2 (by trivial); have R2 := Lib.hid hr2; have G2 := Lib.hid (gb_trans G1.out hg2); have M2 := Lib.hid (R1.out.max M1.out hg2); have Z2 := Lib.hid (gbOther Z1.out hg2 nez); clear hr2 hg2 ha2))
            | (go_at_call 71; refine (CU.out _ M2.out R2.out).mono ?_; rintro e w3 ⟨rfl, hr3, hg3⟩; have R3 := Lib.hid hr3; have G3 := Lib.hid (gb_trans G2.out hg3); have Z3 := Lib.hid (gbOther Z2.out hg3 nez); have B3 := Lib.hid (Blk.fresh w3 #[.int .i64 kd, .int .i64 f, .string ⟨st.toArray⟩, .bool wh, .int .i64 fr, .int .i64 tq] 123); clear hr3 hg3)
            | (go_at_call 180; refine (C1.out _).mono ?_; rintro e w4 ⟨rfl, hk4⟩; have K4 := Lib.hid (((Kept.refl w3).allocO (.cells #[.int .i64 kd, .int .i64 f, .string ⟨st.toArray⟩, .bool wh, .int .i64 fr, .int .i64 tq] 123 (0, 0))).trans hk4); obtain ⟨b0, b1, b2, b3, b4, b5⟩ := (B3.out.kept hk4).cells6; have Z4 := Lib.hid (Z3.out.kept K4.out); obtain ⟨z0, z1, z2, z3⟩ := Z4.out.cells4; have zf := Z4.out.free; have zl := Z4.out.lt; clear hk4))
          have R5 := Lib.hid (show Rdr s tq rb w4 from by have h := R3.out; rw [if_pos (by trivial)] at h; exact h.kept K4.out)
          have G5 := Lib.hid (show w.grownBy w4 (some rb) from gb_trans (gb_kept KZ.out _) (gb_thenK G3.out K4.out))
          clear K4
          refine bodyPost_ret (v := .tuple #[.agg #[.int .i64 n, .int .i64 pv, .int .i64 qv, .bool (st == [110])], .int .i64 0]) ?_ rfl ⟨by rw [HV.out]; rfl, ⟨(tq : Int), fun _ => by rw [HV.out], ?_⟩, ?_⟩
          · simp [results, Tryz.results207, go_sem, z0, z1, z2, z3, zl, zf]
          · repeat (with_reducible first | exact R5.out | refine Rdr.drew ?_ | refine Rdr.alloc ?_ _ | refine Rdr.other ?_ (by first | omega | exact Ne.symm ‹_›) _)
          · repeat (with_reducible first | exact G5.out | refine gb_drew ?_ | refine gb_alloc ?_ _ | refine gb_fresh ?_ (Nat.le_refl _) _)
        | false =>
          rw [w1] at C1
          cases w2 : isWd ⟨kd, f, st, wh, fr, tq⟩ [102] with
          | true =>
            rw [w2] at C2
            have HV := Lib.hid (show X = (0, ⟨n, pv, qv, st == [110]⟩, tq) by rw [HY.out, w1, w2]; rfl)
            clear HY w1 w2 TAIL
            go_enter Tryz.func207, Tryz.ntmps207
            go_wp2_with (first | (go_at_call 43; first | (with_reducible refine CP.out.mono ?_; rintro e w1 ⟨rfl, ⟨a1, ha1, hr1⟩, hg1⟩; obtain rfl := ha1 (by trivial); have R1 := Lib.hid hr1; have G1 := Lib.hid hg1; have M1 := Lib.hid (RZ.out.max MZ.out hg1); have Z1 := Lib.hid (gbOther BZ.out hg1 nez); clear hr1 hg1 ha1) | (refine (CQ.out _ M1.out R1.out).mono ?_; rintro e w2 ⟨rfl, ⟨a2, ha2, hr2⟩, hg2⟩; obtain rfl := ha2 (by trivial); have R2 := Lib.hid hr2; have G2 := Lib.hid (gb_trans G1.out hg2); have M2 := Lib.hid (R1.out.max M1.out hg2); have Z2 := Lib.hid (gbOther Z1.out hg2 nez); clear hr2 hg2 ha2)) | (go_at_call 71; refine (CU.out _ M2.out R2.out).mono ?_; rintro e w3 ⟨rfl, hr3, hg3⟩; have R3 := Lib.hid hr3; have G3 := Lib.hid (gb_trans G2.out hg3); have Z3 := Lib.hid (gbOther Z2.out hg3 nez); have B3 := Lib.hid (Blk.fresh w3 #[.int .i64 kd, .int .i64 f, .string ⟨st.toArray⟩, .bool wh, .int .i64 fr, .int .i64 tq] 123); clear hr3 hg3) | (go_at_call 180; with_reducible refine (C1.out _).mono ?_; rintro e w4 ⟨rfl, hk4⟩; have K4 := Lib.hid (((Kept.refl w3).allocO (.cells #[.int .i64 kd, .int .i64 f, .string ⟨st.toArray⟩, .bool wh, .int .i64 fr, .int .i64 tq] 123 (0, 0))).trans hk4); have B4 := Lib.hid (B3.out.kept hk4); obtain ⟨b0, b1, b2, b3, b4, b5⟩ := B4.out.cells6; clear hk4) | (go_at_call 180; with_reducible refine (C2.out _).mono ?_; rintro e w5 ⟨rfl, hk5⟩; have K5 := Lib.hid (K4.out.trans hk5); obtain ⟨d0, d1, d2, d3, d4, d5⟩ := (B4.out.kept hk5).cells6; have Z4 := Lib.hid (Z3.out.kept K5.out); obtain ⟨z0, z1, z2, z3⟩ := Z4.out.cells4; have zf := Z4.out.free; have zl := Z4.out.lt; clear hk5))
            have R5 := Lib.hid (show Rdr s tq rb w5 from by have h := R3.out; rw [if_pos (by trivial)] at h; exact h.kept K5.out)
            have G5 := Lib.hid (show w.grownBy w5 (some rb) from gb_trans (gb_kept KZ.out _) (gb_thenK G3.out K5.out))
            clear K4 K5
            refine bodyPost_ret (v := .tuple #[.agg #[.int .i64 n, .int .i64 pv, .int .i64 qv, .bool (st == [110])], .int .i64 0]) ?_ rfl ⟨by rw [HV.out]; rfl, ⟨(tq : Int), fun _ => by rw [HV.out], ?_⟩, ?_⟩
            · simp [results, Tryz.results207, go_sem, z0, z1, z2, z3, zl, zf]
            · repeat (with_reducible first | exact R5.out | refine Rdr.drew ?_ | refine Rdr.alloc ?_ _ | refine Rdr.other ?_ (by first | omega | exact Ne.symm ‹_›) _)
            · repeat (with_reducible first | exact G5.out | refine gb_drew ?_ | refine gb_alloc ?_ _ | refine gb_fresh ?_ (Nat.le_refl _) _)
          | false =>
            rw [w2] at C2
            have HV := Lib.hid (show X = (3, zeroE, 0) by rw [HY.out, w1, w2]; rfl)
            clear HY w1 w2 TAIL
            go_enter Tryz.func207, Tryz.ntmps207
            go_wp2_with (first | (go_at_call 43; first | (with_reducible refine CP.out.mono ?_; rintro e w1 ⟨rfl, ⟨a1, ha1, hr1⟩, hg1⟩; obtain rfl := ha1 (by trivial); have R1 := Lib.hid hr1; have G1 := Lib.hid hg1; have M1 := Lib.hid (RZ.out.max MZ.out hg1); have Z1 := Lib.hid (gbOther BZ.out hg1 nez); clear hr1 hg1 ha1) | (refine (CQ.out _ M1.out R1.out).mono ?_; rintro e w2 ⟨rfl, ⟨a2, ha2, hr2⟩, hg2⟩; obtain rfl := ha2 (by trivial); have R2 := Lib.hid hr2; have G2 := Lib.hid (gb_trans G1.out hg2); have M2 := Lib.hid (R1.out.max M1.out hg2); have Z2 := Lib.hid (gbOther Z1.out hg2 nez); clear hr2 hg2 ha2)) | (go_at_call 71; refine (CU.out _ M2.out R2.out).mono ?_; rintro e w3 ⟨rfl, hr3, hg3⟩; have R3 := Lib.hid hr3; have G3 := Lib.hid (gb_trans G2.out hg3); have Z3 := Lib.hid (gbOther Z2.out hg3 nez); have B3 := Lib.hid (Blk.fresh w3 #[.int .i64 kd, .int .i64 f, .string ⟨st.toArray⟩, .bool wh, .int .i64 fr, .int .i64 tq] 123); clear hr3 hg3) | (go_at_call 180; with_reducible refine (C1.out _).mono ?_; rintro e w4 ⟨rfl, hk4⟩; have K4 := Lib.hid (((Kept.refl w3).allocO (.cells #[.int .i64 kd, .int .i64 f, .string ⟨st.toArray⟩, .bool wh, .int .i64 fr, .int .i64 tq] 123 (0, 0))).trans hk4); have B4 := Lib.hid (B3.out.kept hk4); obtain ⟨b0, b1, b2, b3, b4, b5⟩ := B4.out.cells6; clear hk4) | (go_at_call 180; with_reducible refine (C2.out _).mono ?_; rintro e w5 ⟨rfl, hk5⟩; have K5 := Lib.hid (K4.out.trans hk5); obtain ⟨d0, d1, d2, d3, d4, d5⟩ := (B4.out.kept hk5).cells6; have Z4 := Lib.hid (Z3.out.kept K5.out); obtain ⟨z0, z1, z2, z3⟩ := Z4.out.cells4; have zf := Z4.out.free; have zl := Z4.out.lt; clear hk5))
            obtain ⟨a5, ha5⟩ : ∃ a5, Rdr s a5 rb w5 := ⟨_, R3.out.kept K5.out⟩
            have R5 := Lib.hid ha5
            clear ha5
            have G5 := Lib.hid (show w.grownBy w5 (some rb) from gb_trans (gb_kept KZ.out _) (gb_thenK G3.out K5.out))
            clear K4 K5
            refine bodyPost_ret (v := .tuple #[.agg #[.int .i64 0, .int .i64 0, .int .i64 0, .bool false], .int .i64 3]) ?_ rfl ⟨by rw [HV.out]; first | done | rfl, ⟨a5, fun h => by rw [HV.out] at h; exact absurd h (by decide), ?_⟩, ?_⟩
            · simp [results, Tryz.results207, go_sem, z0, z1, z2, z3, zl, zf]
            · repeat (with_reducible first | exact R5.out | refine Rdr.drew ?_ | refine Rdr.alloc ?_ _ | refine Rdr.other ?_ (by first | omega | exact Ne.symm ‹_›) _)
            · repeat (with_reducible first | exact G5.out | refine gb_drew ?_ | refine gb_alloc ?_ _ | refine gb_fresh ?_ (Nat.le_refl _) _)
      · have HV := Lib.hid (show X = (ue, zeroE, 0) by rw [HX.out, if_pos rfl, if_pos rfl, entT, if_neg h3])
        have hne : (ue != 0) = true := by simpa using h3
        have HE := Lib.hid h3
        clear HX h3
        go_enter Tryz.func207, Tryz.ntmps207
        go_wp2_with (first | (go_at_call 43; first | (with_reducible refine CP.out.mono ?_; rintro e w1 ⟨rfl, ⟨a1, ha1, hr1⟩, hg1⟩; obtain rfl := ha1 (by trivial); have R1 := Lib.hid hr1; have G1 := Lib.hid hg1; have M1 := Lib.hid (RZ.out.max MZ.out hg1); have Z1 := Lib.hid (gbOther BZ.out hg1 nez); clear hr1 hg1 ha1) | (refine (CQ.out _ M1.out R1.out).mono ?_; rintro e w2 ⟨rfl, ⟨a2, ha2, hr2⟩, hg2⟩; obtain rfl := ha2 (by trivial); have R2 := Lib.hid hr2; have G2 := Lib.hid (gb_trans G1.out hg2); have M2 := Lib.hid (R1.out.max M1.out hg2); have Z2 := Lib.hid (gbOther Z1.out hg2 nez); clear hr2 hg2 ha2)) | (go_at_call 71; refine (CU.out _ M2.out R2.out).mono ?_; rintro e w3 ⟨rfl, hr3, hg3⟩; have R3 := Lib.hid hr3; have G3 := Lib.hid (gb_trans G2.out hg3); have Z4 := Lib.hid ((gbOther Z2.out hg3 nez).alloc (.cells #[.int .i64 kd, .int .i64 f, .string ⟨st.toArray⟩, .bool wh, .int .i64 fr, .int .i64 tq] 123)); obtain ⟨z0, z1, z2, z3⟩ := Z4.out.cells4; have zf := Z4.out.free; have zl := Z4.out.lt; clear hr3 hg3))
        have G5 := Lib.hid (show w.grownBy w3 (some rb) from gb_trans (gb_kept KZ.out _) G3.out)
        obtain ⟨a5, ha5⟩ : ∃ a5, Rdr s a5 rb w3 := ⟨_, R3.out⟩
        have R5 := Lib.hid ha5
        clear ha5
        refine bodyPost_ret (v := .tuple #[.agg #[.int .i64 0, .int .i64 0, .int .i64 0, .bool false], .int .i64 ue]) ?_ rfl ⟨by rw [HV.out]; first | done | rfl, ⟨a5, fun h => by rw [HV.out] at h; exact absurd h HE.out, ?_⟩, ?_⟩
        · simp [results, Tryz.results207, go_sem, z0, z1, z2, z3, zl, zf]
        · repeat (with_reducible first | exact R5.out | refine Rdr.drew ?_ | refine Rdr.alloc ?_ _ | refine Rdr.other ?_ (by first | omega | exact Ne.symm ‹_›) _)
        · repeat (with_reducible first | exact G5.out | refine gb_drew ?_ | refine gb_alloc ?_ _ | refine gb_fresh ?_ (Nat.le_refl _) _)
    · have HV := Lib.hid (show X = (qe, zeroE, 0) by rw [HX.out, if_pos rfl, if_neg h2])
      have hne : (qe != 0) = true := by simpa using h2
      have HE := Lib.hid h2
      clear HX h2
      go_enter Tryz.func207, Tryz.ntmps207
      go_wp2_with (go_at_call 43; first | (with_reducible refine CP.out.mono ?_; rintro e w1 ⟨rfl, ⟨a1, ha1, hr1⟩, hg1⟩; obtain rfl := ha1 (by trivial); have R1 := Lib.hid hr1; have G1 := Lib.hid hg1; have M1 := Lib.hid (RZ.out.max MZ.out hg1); have Z1 := Lib.hid (gbOther BZ.out hg1 nez); clear hr1 hg1 ha1) | (refine (CQ.out _ M1.out R1.out).mono ?_; rintro e w2 ⟨rfl, ⟨a2, ha2, hr2⟩, hg2⟩; have R2 := Lib.hid hr2; have G2 := Lib.hid (gb_trans G1.out hg2); have Z4 := Lib.hid (gbOther Z1.out hg2 nez); obtain ⟨z0, z1, z2, z3⟩ := Z4.out.cells4; have zf := Z4.out.free; have zl := Z4.out.lt; clear hr2 hg2 ha2))
      have G5 := Lib.hid (show w.grownBy w2 (some rb) from gb_trans (gb_kept KZ.out _) G2.out)
      obtain ⟨a5, ha5⟩ : ∃ a5, Rdr s a5 rb w2 := ⟨_, R2.out⟩
      have R5 := Lib.hid ha5
      clear ha5
      refine bodyPost_ret (v := .tuple #[.agg #[.int .i64 0, .int .i64 0, .int .i64 0, .bool false], .int .i64 qe]) ?_ rfl ⟨by rw [HV.out]; first | done | rfl, ⟨a5, fun h => by rw [HV.out] at h; exact absurd h HE.out, ?_⟩, ?_⟩
      · simp [results, Tryz.results207, go_sem, z0, z1, z2, z3, zl, zf]
      · repeat (with_reducible first | exact R5.out | refine Rdr.drew ?_ | refine Rdr.alloc ?_ _ | refine Rdr.other ?_ (by first | omega | exact Ne.symm ‹_›) _)
      · repeat (with_reducible first | exact G5.out | refine gb_drew ?_ | refine gb_alloc ?_ _ | refine gb_fresh ?_ (Nat.le_refl _) _)
  · have HV := Lib.hid (show X = (pe, zeroE, 0) by rw [HX.out, if_neg h1])
    have hne : (pe != 0) = true := by simpa using h1
    have HE := Lib.hid h1
    clear HX h1
    go_enter Tryz.func207, Tryz.ntmps207
    go_wp2_with (go_at_call 43; (with_reducible refine CP.out.mono ?_; rintro e w1 ⟨rfl, ⟨a1, ha1, hr1⟩, hg1⟩; have R1 := Lib.hid hr1; have G1 := Lib.hid hg1; have Z4 := Lib.hid (gbOther BZ.out hg1 nez); obtain ⟨z0, z1, z2, z3⟩ := Z4.out.cells4; have zf := Z4.out.free; have zl := Z4.out.lt; clear hr1 hg1 ha1))
    have G5 := Lib.hid (show w.grownBy w1 (some rb) from gb_trans (gb_kept KZ.out _) G1.out)
    obtain ⟨a5, ha5⟩ : ∃ a5, Rdr s a5 rb w1 := ⟨_, R1.out⟩
    have R5 := Lib.hid ha5
    clear ha5
    refine bodyPost_ret (v := .tuple #[.agg #[.int .i64 0, .int .i64 0, .int .i64 0, .bool false], .int .i64 pe]) ?_ rfl ⟨by rw [HV.out]; first | done | rfl, ⟨a5, fun h => by rw [HV.out] at h; exact absurd h HE.out, ?_⟩, ?_⟩
    · simp [results, Tryz.results207, go_sem, z0, z1, z2, z3, zl, zf]
    · repeat (with_reducible first | exact R5.out | refine Rdr.drew ?_ | refine Rdr.alloc ?_ _ | refine Rdr.other ?_ (by first | omega | exact Ne.symm ‹_›) _)
    · repeat (with_reducible first | exact G5.out | refine gb_drew ?_ | refine gb_alloc ?_ _ | refine gb_fresh ?_ (Nat.le_refl _) _)

end Go.Proofs.YtoablpaehhjchaaGreatDoor
