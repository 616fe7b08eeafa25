/-
  The next token of what is left of a text.
-/
import Derived.Test.YtnmehngedljgoaaGreatDoorXBase
import Derived.Test.YtnmehngedljgoaaGreatDoorCosNum
namespace Go.Proofs.YtnmehngedljgoaaGreatDoor
open Go.RowKit Cx
attribute [local go_sem ↓] Go.wp_at_zero Go.wp_at_succ

/-- What is left of a text: block rb holds the text, the place, how many are open. -/
def Rst (s : ByteArray) (a dep : Int) (rb : Nat) (w : World) : Prop := Blk w rb #[.string s, .int .i64 a, .int .i64 dep] 66

theorem HasMax.gb {w w' : World} {rb : Nat} (h : HasMax w) (g : w.grownBy w' (some rb)) {v : ByteArray} (hr : w.cell? ⟨rb, 0, none⟩ = some (.string v)) : HasMax w' := by
  obtain ⟨m, hm⟩ := h
  have hne : (0 : Nat) ≠ rb := by
    rintro rfl
    rw [hm] at hr; cases hr
  exact ⟨m, g.cell hm (by simpa using hne)⟩
theorem Rst.max {s : ByteArray} {a dep : Int} {rb : Nat} {w w' : World} (h : Rst s a dep rb w) (hm : HasMax w) (g : w.grownBy w' (some rb)) : HasMax w' := hm.gb g (h.cell 0)
theorem Rst.kept {s : ByteArray} {a dep : Int} {rb : Nat} {w w' : World} (h : Rst s a dep rb w) (k : Kept w w') : Rst s a dep rb w' := Blk.kept h k
theorem Rst.lt {s : ByteArray} {a dep : Int} {rb : Nat} {w : World} (h : Rst s a dep rb w) : rb < w.heap.size := Blk.lt h
theorem gb_kept {w w' : World} (k : Kept w w') (r : Option Nat) : w.grownBy w' r := ⟨k.os, k.tape, k.output, k.size, fun j hj _ => k.block j hj⟩
theorem gb_setAt (w : World) (k o : Nat) (v : Value) : w.grownBy (w.setCell ⟨k, o, none⟩ v) (some k) :=
  ⟨rfl, rfl, rfl, by simp, fun j _ hn => Below.heap_setCell w ⟨k, o, none⟩ v j (fun h => hn (by rw [h]))⟩
theorem gb_fresh {a b : World} {r : Option Nat} (h : a.grownBy b r) {k o : Nat} (hk : a.heap.size ≤ k) (v : Value) : a.grownBy (b.setCell ⟨k, o, none⟩ v) r :=
  ⟨h.os, h.tape, h.output, by have := h.size; simpa using this, fun j hj hn => (Below.heap_setCell b ⟨k, o, none⟩ v j (by simp; omega)).trans (h.block j hj hn)⟩
theorem gb_own {a b : World} {k : Nat} (h : a.grownBy b (some k)) (o : Nat) (v : Value) : a.grownBy (b.setCell ⟨k, o, none⟩ v) (some k) :=
  ⟨h.os, h.tape, h.output, by have := h.size; simpa using this, fun j hj hn => (Below.heap_setCell b ⟨k, o, none⟩ v j (fun e => hn (by simp at e; rw [e]))).trans (h.block j hj hn)⟩
theorem gb_alloc {a b : World} {r : Option Nat} (h : a.grownBy b r) (o : Obj) : a.grownBy (b.alloc o) r :=
  ⟨h.os, h.tape, h.output, by have := h.size; simp; omega, fun j hj hn => (Below.heap_alloc b o j (by have := h.size; omega)).trans (h.block j hj hn)⟩
theorem gb_drew {a b : World} {r : Option Nat} (h : a.grownBy b r) : a.grownBy b.drew r := ⟨h.os, h.tape, h.output, h.size, h.block⟩
theorem gb_drewN {a b : World} {r : Option Nat} (h : a.grownBy b r) (n : Nat) : a.grownBy (b.drewN n) r := ⟨h.os, h.tape, h.output, h.size, h.block⟩
theorem gb_thenK {a b c : World} {r : Option Nat} (h : a.grownBy b r) (k : Kept b c) : a.grownBy c r := gb_trans h (gb_kept k r)

theorem Rst.other {s : ByteArray} {a dep : Int} {rb : Nat} {w : World} (h : Rst s a dep rb w) {k o : Nat} (n : rb ≠ k) (v : Value) : Rst s a dep rb (w.setCell ⟨k, o, none⟩ v) := Blk.other h n v
theorem Rst.alloc {s : ByteArray} {a dep : Int} {rb : Nat} {w : World} (h : Rst s a dep rb w) (o : Obj) : Rst s a dep rb (w.alloc o) := Blk.alloc h o
theorem Rst.drew {s : ByteArray} {a dep : Int} {rb : Nat} {w : World} (h : Rst s a dep rb w) : Rst s a dep rb w.drew := h
theorem Rst.drewN {s : ByteArray} {a dep : Int} {rb : Nat} {w : World} (h : Rst s a dep rb w) (n : Nat) : Rst s a dep rb (w.drewN n) := h
theorem Rst.move {s : ByteArray} {a dep : Int} {rb : Nat} {w : World} (h : Rst s a dep rb w) (v : Int) : Rst s v dep rb (w.setCell ⟨rb, 1, none⟩ (.int .i64 v)) := by
  have := Blk.set h 1 (.int .i64 v)
  simpa [Rst] using this
theorem Rst.deep {s : ByteArray} {a dep : Int} {rb : Nat} {w : World} (h : Rst s a dep rb w) (v : Int) : Rst s a v rb (w.setCell ⟨rb, 2, none⟩ (.int .i64 v)) := by
  have := Blk.set h 2 (.int .i64 v)
  simpa [Rst] using this
theorem restS {w wx : World} {b c : Nat} {t u : TypeId} {x0 x1 x2 : Value} {cs : Array Value} (h : In w [(c, cs, u), (b, #[x0, x1, x2], t)] wx) :
    wx.cell? ⟨b, 0, none⟩ = some x0 ∧ wx.cell? ⟨b, 1, none⟩ = some x1 :=
  ⟨(h.mem (List.mem_cons_of_mem _ List.mem_cons_self)).cell 0, (h.mem (List.mem_cons_of_mem _ List.mem_cons_self)).cell 1⟩

set_option maxRecDepth 100000 in
set_option maxHeartbeats 4000000 in
theorem token_any (s : ByteArray) (a dep : Int) (rb : Nat) (w : World) (hs : s.size ≤ 4294967295) (hm : HasMax w) (hr : Rst s a dep rb w) (T : Int × Lx.Tok) (hT : T = Lx.nextV s.data.toList a) :
    Calls Tryz.prog 61 #[.pointer (some ⟨rb, 0, none⟩)] w fun e w' =>
      e = .returned (.tuple #[tkV T.2, .int .i64 T.1]) ∧ Rst s (if T.1 = 0 then (T.2.to : Int) else a) dep rb w' ∧ w.grownBy w' (some rb) := by
  obtain ⟨er, kd, fv, st, wh, fr, tq⟩ := T
  have HT := Lib.hid hT
  have HM := Lib.hid hm
  have HR := Lib.hid hr
  have hrb := hr.lt
  unfold tkV
  simp only []
  have HX := Lib.hid ((In.start w).cons hr)
  have HX1 := Lib.hid (In.fresh HX.out #[.int .i64 0, .int .i64 0, .string ⟨#[]⟩, .bool false, .int .i64 0, .int .i64 0] 108)
  clear HX
  have HX := HX1
  clear HX1
  have rf := Blk.free hr
  have h0 := Blk.cell hr 0
  have h1 := Blk.cell hr 1
  simp at h0 h1
  have ne0 : w.heap.size ≠ rb := by omega
  have ne1 : w.heap.size + 1 ≠ rb := by omega
  have HW := Lib.hid (show w.heap.size ≤ w.heap.size + 1 from Nat.le_succ _)
  have NT := Lib.hid (show ∀ x ∈ [((w.heap.size : Nat), (#[.int .i64 0, .int .i64 0, .string ⟨#[]⟩, .bool false, .int .i64 0, .int .i64 0] : Array Value), (108 : TypeId)), ((rb : Nat), (#[.string s, .int .i64 a, .int .i64 dep] : Array Value), (66 : TypeId))], x.1 ≠ w.heap.size + 1 from fun x hx => by
    simp at hx
    rcases hx with rfl | rfl <;> simp <;> omega)
  have CN := Lib.hid (show ∀ wx, Kept w wx → Calls Tryz.prog 96 #[.string s, .int .i64 a] wx fun e w' => e = .returned (.tuple #[.agg #[.int .i64 kd, .int .i64 fv, .string ⟨st.toArray⟩, .bool wh, .int .i64 fr, .int .i64 tq], .int .i64 er]) ∧ Kept wx w' from
    fun wx hk => Next_any s a wx (by omega) (hm.kept hk) _ hT)
  clear hT hm hr
  by_cases he : er = 0
  · subst he
    rw [if_pos rfl]
    go_enter Tryz.func61, Tryz.ntmps61
    go_wp2_with fail
    go_region_held3 (fun w' => w'.cell? ⟨rb, 0, none⟩ = some (.string s) ∧ w'.cell? ⟨rb, 1, none⟩ = some (.int .i64 a)) (go_keep)
      (first | (go_at_call 96; (first | (with_reducible refine (CN.out _ (In.k HX.out)).mono ?_) | (with_reducible refine (CN.out _ (In.k HX.out.drew)).mono ?_) | (with_reducible refine (CN.out _ (In.k (HX.out.alloc _))).mono ?_) | (with_reducible refine (CN.out _ (In.k (HX.out.alloc _).drew)).mono ?_)); rintro e wn ⟨rfl, kn⟩; (first | ((with_reducible have HZ := Lib.hid (Blk.kept (Blk.drew (Blk.fresh' (b := w.heap.size + 1) #[.int .i64 0, .int .i64 0, .string ⟨#[]⟩, .bool false, .int .i64 0, .int .i64 0] 108 (by simp))) kn)); (with_reducible have HX := Lib.hid (In.kept (In.drew (In.alloc HX.out (.cells #[.int .i64 0, .int .i64 0, .string ⟨#[]⟩, .bool false, .int .i64 0, .int .i64 0] 108 (0, 0)))) kn)); obtain ⟨y0, y1, y2, y3, y4, y5⟩ := HZ.out.cells6; have yf := HZ.out.free; obtain ⟨r0, r1, r2, r3, r4, r5⟩ := (HX.out.mem List.mem_cons_self).cells6; have rz := (HX.out.mem List.mem_cons_self).free; have hz := (HX.out.mem List.mem_cons_self).lt; obtain ⟨c0, c1⟩ := restS HX.out) | ((with_reducible have HX := Lib.hid (In.kept HX.out kn)); obtain ⟨r0, r1, r2, r3, r4, r5⟩ := (HX.out.mem List.mem_cons_self).cells6; have rz := (HX.out.mem List.mem_cons_self).free; have hz := (HX.out.mem List.mem_cons_self).lt; obtain ⟨c0, c1⟩ := restS HX.out) | ((with_reducible have HX := Lib.hid (In.kept (In.drew HX.out) kn)); obtain ⟨r0, r1, r2, r3, r4, r5⟩ := (HX.out.mem List.mem_cons_self).cells6; have rz := (HX.out.mem List.mem_cons_self).free; have hz := (HX.out.mem List.mem_cons_self).lt; obtain ⟨c0, c1⟩ := restS HX.out))))
    all_goals
      have HR3 := Lib.hid (show Rst s a dep rb wn from HX.out.mem (List.mem_cons_of_mem _ List.mem_cons_self))
      have rfn := Blk.free HR3.out
      have rbz := HR3.out.lt
      have HG3 := Lib.hid (gb_kept (In.k HX.out) (some rb))
      go_wp2_with fail
      refine bodyPost_ret (v := .tuple #[.agg #[.int .i64 kd, .int .i64 fv, .string ⟨st.toArray⟩, .bool wh, .int .i64 fr, .int .i64 tq], .int .i64 0]) ?_ rfl ⟨by rfl, ?_, ?_⟩
      · simp [results, Tryz.results61, go_sem, r0, r1, r2, r3, r4, r5, hz]
      · repeat (with_reducible first | exact HR3.out | refine Rst.move (a := a) ?_ _ | refine Rst.drew ?_ | refine Rst.alloc ?_ _ | refine Rst.other ?_ (by first | omega | exact Ne.symm ‹_›) _)
      · repeat (with_reducible first | exact HG3.out | refine gb_own ?_ _ _ | refine gb_drew ?_ | refine gb_alloc ?_ _ | refine gb_fresh ?_ (by first | exact Nat.le_refl _ | exact Nat.le_succ _) _)
  · have HZT := Lib.hid (show (⟨kd, fv, st, wh, fr, tq⟩ : Lx.Tok) = Lx.zero by
      have := Lx.next_zero_of s.data.toList a (by rw [← HT.out]; exact he)
      rw [← HT.out] at this; exact this)
    have hne : (er != 0) = true := by simpa using he
    rw [if_neg he]
    have z0 : kd = 0 := congrArg Lx.Tok.kind HZT.out
    have z1 : fv = 0 := congrArg Lx.Tok.f HZT.out
    have z2 : st = [] := congrArg Lx.Tok.s HZT.out
    have z3 : wh = false := congrArg Lx.Tok.whole HZT.out
    have z4 : fr = 0 := congrArg Lx.Tok.frm HZT.out
    have z5 : tq = 0 := congrArg Lx.Tok.to HZT.out
    clear HZT
    subst z0 z1 z2 z3 z4 z5
    clear he
    go_enter Tryz.func61, Tryz.ntmps61
    go_wp2_with fail
    go_region_held3 (fun w' => w'.cell? ⟨rb, 0, none⟩ = some (.string s) ∧ w'.cell? ⟨rb, 1, none⟩ = some (.int .i64 a)) (go_keep)
      (first | (go_at_call 96; (first | (with_reducible refine (CN.out _ (In.k HX.out)).mono ?_) | (with_reducible refine (CN.out _ (In.k HX.out.drew)).mono ?_) | (with_reducible refine (CN.out _ (In.k (HX.out.alloc _))).mono ?_) | (with_reducible refine (CN.out _ (In.k (HX.out.alloc _).drew)).mono ?_)); rintro e wn ⟨rfl, kn⟩; (first | ((with_reducible have HZ := Lib.hid (Blk.kept (Blk.drew (Blk.fresh' (b := w.heap.size + 1) #[.int .i64 0, .int .i64 0, .string ⟨#[]⟩, .bool false, .int .i64 0, .int .i64 0] 108 (by simp))) kn)); (with_reducible have HX := Lib.hid (In.kept (In.drew (In.alloc HX.out (.cells #[.int .i64 0, .int .i64 0, .string ⟨#[]⟩, .bool false, .int .i64 0, .int .i64 0] 108 (0, 0)))) kn)); obtain ⟨y0, y1, y2, y3, y4, y5⟩ := HZ.out.cells6; have yf := HZ.out.free; obtain ⟨r0, r1, r2, r3, r4, r5⟩ := (HX.out.mem List.mem_cons_self).cells6; have rz := (HX.out.mem List.mem_cons_self).free; have hz := (HX.out.mem List.mem_cons_self).lt; obtain ⟨c0, c1⟩ := restS HX.out) | ((with_reducible have HX := Lib.hid (In.kept HX.out kn)); obtain ⟨r0, r1, r2, r3, r4, r5⟩ := (HX.out.mem List.mem_cons_self).cells6; have rz := (HX.out.mem List.mem_cons_self).free; have hz := (HX.out.mem List.mem_cons_self).lt; obtain ⟨c0, c1⟩ := restS HX.out) | ((with_reducible have HX := Lib.hid (In.kept (In.drew HX.out) kn)); obtain ⟨r0, r1, r2, r3, r4, r5⟩ := (HX.out.mem List.mem_cons_self).cells6; have rz := (HX.out.mem List.mem_cons_self).free; have hz := (HX.out.mem List.mem_cons_self).lt; obtain ⟨c0, c1⟩ := restS HX.out))))
    all_goals
      have HR3 := Lib.hid (show Rst s a dep rb wn from HX.out.mem (List.mem_cons_of_mem _ List.mem_cons_self))
      have rfn := Blk.free HR3.out
      have rbz := HR3.out.lt
      have HG3 := Lib.hid (gb_kept (In.k HX.out) (some rb))
      go_wp2_with fail
      refine bodyPost_ret (v := .tuple #[.agg #[.int .i64 0, .int .i64 0, .string ⟨#[]⟩, .bool false, .int .i64 0, .int .i64 0], .int .i64 er]) ?_ rfl ⟨by rfl, ?_, ?_⟩
      · simp [results, Tryz.results61, go_sem, r0, r1, r2, r3, r4, r5, hz]
      · repeat (with_reducible first | exact HR3.out | refine Rst.move (a := a) ?_ _ | refine Rst.drew ?_ | refine Rst.alloc ?_ _ | refine Rst.other ?_ (by first | omega | exact Ne.symm ‹_›) _)
      · repeat (with_reducible first | exact HG3.out | refine gb_own ?_ _ _ | refine gb_drew ?_ | refine gb_alloc ?_ _ | refine gb_fresh ?_ (by first | exact Nat.le_refl _ | exact Nat.le_succ _) _)

end Go.Proofs.YtnmehngedljgoaaGreatDoor
