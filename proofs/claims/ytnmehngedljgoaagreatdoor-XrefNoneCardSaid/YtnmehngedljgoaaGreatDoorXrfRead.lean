/-
  A table's text, token by token: what package xref's reader answers.
-/
import Derived.Test.YtnmehngedljgoaaGreatDoorCosToken
import Derived.Test.YtnmehngedljgoaaGreatDoorXrfM
import Derived.Test.YtnmehngedljgoaaGreatDoorXrfRow
namespace Go.Proofs.YtnmehngedljgoaaGreatDoor
open Go.RowKit Rx
set_option linter.unusedSimpArgs false
set_option linter.unusedVariables false
attribute [local go_sem ↓] Go.wp_at_zero Go.wp_at_succ

/-- A reader: block rb holds the text and the place. -/
def Rdr (s : ByteArray) (a : Int) (rb : Nat) (w : World) : Prop := Blk w rb #[.string s, .int .i64 a] 85
theorem Rdr.kept {s : ByteArray} {a : Int} {rb : Nat} {w w' : World} (h : Rdr s a rb w) (k : Kept w w') : Rdr s a rb w' := Blk.kept h k
theorem Rdr.lt {s : ByteArray} {a : Int} {rb : Nat} {w : World} (h : Rdr s a rb w) : rb < w.heap.size := Blk.lt h
theorem Rdr.other {s : ByteArray} {a : Int} {rb : Nat} {w : World} (h : Rdr s a rb w) {k o : Nat} (n : rb ≠ k) (v : Value) : Rdr s a rb (w.setCell ⟨k, o, none⟩ v) := Blk.other h n v
theorem Rdr.alloc {s : ByteArray} {a : Int} {rb : Nat} {w : World} (h : Rdr s a rb w) (o : Obj) : Rdr s a rb (w.alloc o) := Blk.alloc h o
theorem Rdr.drew {s : ByteArray} {a : Int} {rb : Nat} {w : World} (h : Rdr s a rb w) : Rdr s a rb w.drew := h
theorem Rdr.drewN {s : ByteArray} {a : Int} {rb : Nat} {w : World} (h : Rdr s a rb w) (n : Nat) : Rdr s a rb (w.drewN n) := h
theorem Rdr.move {s : ByteArray} {a : Int} {rb : Nat} {w : World} (h : Rdr s a rb w) (v : Int) : Rdr s v rb (w.setCell ⟨rb, 1, none⟩ (.int .i64 v)) := by
  have := Blk.set h 1 (.int .i64 v)
  simpa [Rdr] using this
theorem Rdr.gb {s : ByteArray} {a : Int} {rb : Nat} {w w' : World} (h : Rdr s a rb w) {r : Option Nat} (g : w.grownBy w' r) (n : some rb ≠ r) : Rdr s a rb w' := (g.block rb h.lt n).trans h
theorem max_gb {w w' : World} {rb : Nat} (h : HasMax w) (g : w.grownBy w' (some rb)) {v : ByteArray} (hr : w.cell? ⟨rb, 0, none⟩ = some (.string v)) : HasMax w' := h.gb g hr
theorem Rdr.max {s : ByteArray} {a : Int} {rb : Nat} {w w' : World} (h : Rdr s a rb w) (hm : HasMax w) (g : w.grownBy w' (some rb)) : HasMax w' := hm.gb g (Blk.cell h 0)
theorem rdrS {w wx : World} {b c : Nat} {t u : TypeId} {x0 x1 : Value} {cs : Array Value} (h : In w [(c, cs, u), (b, #[x0, x1], t)] wx) :
    wx.cell? ⟨b, 0, none⟩ = some x0 ∧ wx.cell? ⟨b, 1, none⟩ = some x1 :=
  ⟨(h.mem (List.mem_cons_of_mem _ List.mem_cons_self)).cell 0, (h.mem (List.mem_cons_of_mem _ List.mem_cons_self)).cell 1⟩

set_option maxRecDepth 100000 in
set_option maxHeartbeats 4000000 in
theorem rtoken_any (s : ByteArray) (a : Int) (rb : Nat) (w : World) (hs : s.size ≤ 4294967295) (hm : HasMax w) (hr : Rdr s a rb w) (T : Int × Lx.Tok) (hT : T = tokX s.data.toList a) :
    Calls Tryz.prog 73 #[.pointer (some ⟨rb, 0, none⟩)] w fun e w' =>
      e = .returned (.tuple #[tkV T.2, .int .i64 T.1]) ∧ Rdr s (if T.1 = 0 then (T.2.to : Int) else a) rb w' ∧ w.grownBy w' (some rb) := by
  obtain ⟨U, hU⟩ : ∃ U, U = Lx.nextV s.data.toList a := ⟨_, rfl⟩
  unfold tokX at hT
  rw [← hU] at hT
  obtain ⟨er, kd, fv, st, wh, fr, tq⟩ := U
  have HT := Lib.hid hT
  have HU := Lib.hid hU
  have HM := Lib.hid hm
  have HR := Lib.hid hr
  have hrb := hr.lt
  have HX := Lib.hid ((In.start w).cons hr)
  have HX1 := Lib.hid (In.fresh HX.out #[.int .i64 0, .int .i64 0, .string ⟨#[]⟩, .bool false, .int .i64 0, .int .i64 0] 108)
  clear HX
  have HX := HX1
  clear HX1
  have rf := Blk.free hr
  have h0 := Blk.cell hr 0
  have h1 := Blk.cell hr 1
  simp at h0 h1
  have ne0 : w.heap.size ≠ rb := by omega
  have ne1 : w.heap.size + 1 ≠ rb := by omega
  have HW := Lib.hid (show w.heap.size ≤ w.heap.size + 1 from Nat.le_succ _)
  have NT := Lib.hid (show ∀ x ∈ [((w.heap.size : Nat), (#[.int .i64 0, .int .i64 0, .string ⟨#[]⟩, .bool false, .int .i64 0, .int .i64 0] : Array Value), (108 : TypeId)), ((rb : Nat), (#[.string s, .int .i64 a] : Array Value), (85 : TypeId))], x.1 ≠ w.heap.size + 1 from fun x hx => by
    simp at hx
    rcases hx with rfl | rfl <;> simp <;> omega)
  have CN := Lib.hid (show ∀ wx, Kept w wx → Calls Tryz.prog 96 #[.string s, .int .i64 a] wx fun e w' => e = .returned (.tuple #[.agg #[.int .i64 kd, .int .i64 fv, .string ⟨st.toArray⟩, .bool wh, .int .i64 fr, .int .i64 tq], .int .i64 er]) ∧ Kept wx w' from
    fun wx hk => Next_any s a wx (by omega) (hm.kept hk) _ hU)
  clear hT hm hr hU
  by_cases he : er = 0
  · subst he
    by_cases hkd : kd = 0
    · subst hkd
      have HV := Lib.hid (show T = (4, Lx.zero) by rw [HT.out]; rfl)
      clear HT
      obtain ⟨Te, Tt⟩ := T
      obtain ⟨rfl, rfl⟩ := Prod.mk.inj HV.out
      go_enter Tryz.func73, Tryz.ntmps73
      go_wp2_with fail
      go_region_held3 (fun w' => w'.cell? ⟨rb, 0, none⟩ = some (.string s) ∧ w'.cell? ⟨rb, 1, none⟩ = some (.int .i64 a)) (go_keep)
        (first | (go_at_call 96; (first | (with_reducible refine (CN.out _ (In.k HX.out)).mono ?_) | (with_reducible refine (CN.out _ (In.k HX.out.drew)).mono ?_) | (with_reducible refine (CN.out _ (In.k (HX.out.alloc _))).mono ?_) | (with_reducible refine (CN.out _ (In.k (HX.out.alloc _).drew)).mono ?_)); rintro e wn ⟨rfl, kn⟩; (first | ((with_reducible have HZ := Lib.hid (Blk.kept (Blk.drew (Blk.fresh' (b := w.heap.size + 1) #[.int .i64 0, .int .i64 0, .string ⟨#[]⟩, .bool false, .int .i64 0, .int .i64 0] 108 (by simp))) kn)); (with_reducible have HX := Lib.hid (In.kept (In.drew (In.alloc HX.out (.cells #[.int .i64 0, .int .i64 0, .string ⟨#[]⟩, .bool false, .int .i64 0, .int .i64 0] 108 (0, 0)))) kn)); obtain ⟨y0, y1, y2, y3, y4, y5⟩ := HZ.out.cells6; have yf := HZ.out.free; obtain ⟨r0, r1, r2, r3, r4, r5⟩ := (HX.out.mem List.mem_cons_self).cells6; have rz := (HX.out.mem List.mem_cons_self).free; have hz := (HX.out.mem List.mem_cons_self).lt; obtain ⟨c0, c1⟩ := rdrS HX.out) | ((with_reducible have HX := Lib.hid (In.kept HX.out kn)); obtain ⟨r0, r1, r2, r3, r4, r5⟩ := (HX.out.mem List.mem_cons_self).cells6; have rz := (HX.out.mem List.mem_cons_self).free; have hz := (HX.out.mem List.mem_cons_self).lt; obtain ⟨c0, c1⟩ := rdrS HX.out) | ((with_reducible have HX := Lib.hid (In.kept (In.drew HX.out) kn)); obtain ⟨r0, r1, r2, r3, r4, r5⟩ := (HX.out.mem List.mem_cons_self).cells6; have rz := (HX.out.mem List.mem_cons_self).free; have hz := (HX.out.mem List.mem_cons_self).lt; obtain ⟨c0, c1⟩ := rdrS HX.out))))
      all_goals
        have HR3 := Lib.hid (show Rdr s a rb wn from HX.out.mem (List.mem_cons_of_mem _ List.mem_cons_self))
        have rfn := Blk.free HR3.out
        have rbz := HR3.out.lt
        have HG3 := Lib.hid (gb_kept (In.k HX.out) (some rb))
        go_wp2_with fail
        refine bodyPost_ret (v := .tuple #[.agg #[.int .i64 0, .int .i64 0, .string ⟨#[]⟩, .bool false, .int .i64 0, .int .i64 0], .int .i64 4]) ?_ rfl ⟨by rfl, ?_, ?_⟩
        · simp [results, Tryz.results73, go_sem, r0, r1, r2, r3, r4, r5, hz]
        · repeat (with_reducible first | exact HR3.out | refine Rdr.drew ?_ | refine Rdr.alloc ?_ _ | refine Rdr.other ?_ (by first | omega | exact Ne.symm ‹_›) _)
        · repeat (with_reducible first | exact HG3.out | refine gb_own ?_ _ _ | refine gb_drew ?_ | refine gb_alloc ?_ _ | refine gb_fresh ?_ (by first | exact Nat.le_refl _ | exact Nat.le_succ _) _)
    · have HV := Lib.hid (show T = (0, ⟨kd, fv, st, wh, fr, tq⟩) by rw [HT.out, if_pos rfl, if_neg hkd])
      have hkb : (kd == 0) = false := by simpa using hkd
      clear HT hkd
      obtain ⟨Te, Tt⟩ := T
      obtain ⟨rfl, rfl⟩ := Prod.mk.inj HV.out
      rw [if_pos rfl]
      go_enter Tryz.func73, Tryz.ntmps73
      go_wp2_with fail
      go_region_held3 (fun w' => w'.cell? ⟨rb, 0, none⟩ = some (.string s) ∧ w'.cell? ⟨rb, 1, none⟩ = some (.int .i64 a)) (go_keep)
        (first | (go_at_call 96; (first | (with_reducible refine (CN.out _ (In.k HX.out)).mono ?_) | (with_reducible refine (CN.out _ (In.k HX.out.drew)).mono ?_) | (with_reducible refine (CN.out _ (In.k (HX.out.alloc _))).mono ?_) | (with_reducible refine (CN.out _ (In.k (HX.out.alloc _).drew)).mono ?_)); rintro e wn ⟨rfl, kn⟩; (first | ((with_reducible have HZ := Lib.hid (Blk.kept (Blk.drew (Blk.fresh' (b := w.heap.size + 1) #[.int .i64 0, .int .i64 0, .string ⟨#[]⟩, .bool false, .int .i64 0, .int .i64 0] 108 (by simp))) kn)); (with_reducible have HX := Lib.hid (In.kept (In.drew (In.alloc HX.out (.cells #[.int .i64 0, .int .i64 0, .string ⟨#[]⟩, .bool false, .int .i64 0, .int .i64 0] 108 (0, 0)))) kn)); obtain ⟨y0, y1, y2, y3, y4, y5⟩ := HZ.out.cells6; have yf := HZ.out.free; obtain ⟨r0, r1, r2, r3, r4, r5⟩ := (HX.out.mem List.mem_cons_self).cells6; have rz := (HX.out.mem List.mem_cons_self).free; have hz := (HX.out.mem List.mem_cons_self).lt; obtain ⟨c0, c1⟩ := rdrS HX.out) | ((with_reducible have HX := Lib.hid (In.kept HX.out kn)); obtain ⟨r0, r1, r2, r3, r4, r5⟩ := (HX.out.mem List.mem_cons_self).cells6; have rz := (HX.out.mem List.mem_cons_self).free; have hz := (HX.out.mem List.mem_cons_self).lt; obtain ⟨c0, c1⟩ := rdrS HX.out) | ((with_reducible have HX := Lib.hid (In.kept (In.drew HX.out) kn)); obtain ⟨r0, r1, r2, r3, r4, r5⟩ := (HX.out.mem List.mem_cons_self).cells6; have rz := (HX.out.mem List.mem_cons_self).free; have hz := (HX.out.mem List.mem_cons_self).lt; obtain ⟨c0, c1⟩ := rdrS HX.out))))
      all_goals
        have HR3 := Lib.hid (show Rdr s a rb wn from HX.out.mem (List.mem_cons_of_mem _ List.mem_cons_self))
        have rfn := Blk.free HR3.out
        have rbz := HR3.out.lt
        have HG3 := Lib.hid (gb_kept (In.k HX.out) (some rb))
        go_wp2_with fail
        refine bodyPost_ret (v := .tuple #[.agg #[.int .i64 kd, .int .i64 fv, .string ⟨st.toArray⟩, .bool wh, .int .i64 fr, .int .i64 tq], .int .i64 0]) ?_ rfl ⟨by rfl, ?_, ?_⟩
        · simp [results, Tryz.results73, go_sem, r0, r1, r2, r3, r4, r5, hz]
        · repeat (with_reducible first | exact HR3.out | refine Rdr.move (a := a) ?_ _ | refine Rdr.drew ?_ | refine Rdr.alloc ?_ _ | refine Rdr.other ?_ (by first | omega | exact Ne.symm ‹_›) _)
        · repeat (with_reducible first | exact HG3.out | refine gb_own ?_ _ _ | refine gb_drew ?_ | refine gb_alloc ?_ _ | refine gb_fresh ?_ (by first | exact Nat.le_refl _ | exact Nat.le_succ _) _)
  · have HZT := Lib.hid (show (⟨kd, fv, st, wh, fr, tq⟩ : Lx.Tok) = Lx.zero by
      have := Lx.next_zero_of s.data.toList a (by rw [← HU.out]; exact he)
      rw [← HU.out] at this; exact this)
    have HV := Lib.hid (show T = (er, Lx.zero) by rw [HT.out, if_neg he])
    have hne : (er != 0) = true := by simpa using he
    have hnb : (er == 0) = false := by simpa using he
    have HE := Lib.hid he
    have z0 : kd = 0 := congrArg Lx.Tok.kind HZT.out
    have z1 : fv = 0 := congrArg Lx.Tok.f HZT.out
    have z2 : st = [] := congrArg Lx.Tok.s HZT.out
    have z3 : wh = false := congrArg Lx.Tok.whole HZT.out
    have z4 : fr = 0 := congrArg Lx.Tok.frm HZT.out
    have z5 : tq = 0 := congrArg Lx.Tok.to HZT.out
    clear HZT HT
    subst z0 z1 z2 z3 z4 z5
    obtain ⟨Te, Tt⟩ := T
    obtain ⟨e1, e2⟩ := Prod.mk.inj HV.out
    subst e1 e2
    clear he
    go_enter Tryz.func73, Tryz.ntmps73
    go_wp2_with fail
    go_region_held3 (fun w' => w'.cell? ⟨rb, 0, none⟩ = some (.string s) ∧ w'.cell? ⟨rb, 1, none⟩ = some (.int .i64 a)) (go_keep)
      (first | (go_at_call 96; (first | (with_reducible refine (CN.out _ (In.k HX.out)).mono ?_) | (with_reducible refine (CN.out _ (In.k HX.out.drew)).mono ?_) | (with_reducible refine (CN.out _ (In.k (HX.out.alloc _))).mono ?_) | (with_reducible refine (CN.out _ (In.k (HX.out.alloc _).drew)).mono ?_)); rintro e wn ⟨rfl, kn⟩; (first | ((with_reducible have HZ := Lib.hid (Blk.kept (Blk.drew (Blk.fresh' (b := w.heap.size + 1) #[.int .i64 0, .int .i64 0, .string ⟨#[]⟩, .bool false, .int .i64 0, .int .i64 0] 108 (by simp))) kn)); (with_reducible have HX := Lib.hid (In.kept (In.drew (In.alloc HX.out (.cells #[.int .i64 0, .int .i64 0, .string ⟨#[]⟩, .bool false, .int .i64 0, .int .i64 0] 108 (0, 0)))) kn)); obtain ⟨y0, y1, y2, y3, y4, y5⟩ := HZ.out.cells6; have yf := HZ.out.free; obtain ⟨r0, r1, r2, r3, r4, r5⟩ := (HX.out.mem List.mem_cons_self).cells6; have rz := (HX.out.mem List.mem_cons_self).free; have hz := (HX.out.mem List.mem_cons_self).lt; obtain ⟨c0, c1⟩ := rdrS HX.out) | ((with_reducible have HX := Lib.hid (In.kept HX.out kn)); obtain ⟨r0, r1, r2, r3, r4, r5⟩ := (HX.out.mem List.mem_cons_self).cells6; have rz := (HX.out.mem List.mem_cons_self).free; have hz := (HX.out.mem List.mem_cons_self).lt; obtain ⟨c0, c1⟩ := rdrS HX.out) | ((with_reducible have HX := Lib.hid (In.kept (In.drew HX.out) kn)); obtain ⟨r0, r1, r2, r3, r4, r5⟩ := (HX.out.mem List.mem_cons_self).cells6; have rz := (HX.out.mem List.mem_cons_self).free; have hz := (HX.out.mem List.mem_cons_self).lt; obtain ⟨c0, c1⟩ := rdrS HX.out))))
    all_goals
      have HR3 := Lib.hid (show Rdr s a rb wn from HX.out.mem (List.mem_cons_of_mem _ List.mem_cons_self))
      have rfn := Blk.free HR3.out
      have rbz := HR3.out.lt
      have HG3 := Lib.hid (gb_kept (In.k HX.out) (some rb))
      go_wp2_with fail
      refine bodyPost_ret (v := .tuple #[.agg #[.int .i64 0, .int .i64 0, .string ⟨#[]⟩, .bool false, .int .i64 0, .int .i64 0], .int .i64 Te]) ?_ rfl ⟨by rfl, ?_, ?_⟩
      · simp [results, Tryz.results73, go_sem, r0, r1, r2, r3, r4, r5, hz]
      · repeat (with_reducible first | exact HR3.out | refine Rdr.drew ?_ | refine Rdr.alloc ?_ _ | refine Rdr.other ?_ (by first | omega | exact Ne.symm ‹_›) _)
      · repeat (with_reducible first | exact HG3.out | refine gb_own ?_ _ _ | refine gb_drew ?_ | refine gb_alloc ?_ _ | refine gb_fresh ?_ (by first | exact Nat.le_refl _ | exact Nat.le_succ _) _)

end Go.Proofs.YtnmehngedljgoaaGreatDoor
