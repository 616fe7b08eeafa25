/-
  What the small functions of package cos on tokens answer.
  A number, a Ref, a Word as objects; the next token of what is left of a text.
  The next token of what is left of a text.
-/
import Derived.Test.YtoablpaehhjchaaGreatDoorLexM
import Derived.Test.YtoablpaehhjchaaGreatDoorCosLies
import Derived.Test.YtoablpaehhjchaaGreatDoorLexW2
import Derived.Test.YtoablpaehhjchaaGreatDoorFixW
import Derived.Deep.RegionHeld3
import Derived.Deep.DrawnRows
import Derived.Test.YtoablpaehhjchaaGreatDoorXBase
namespace Go.Proofs.YtoablpaehhjchaaGreatDoor
open Go.RowKit Cx
attribute [local go_sem ↓] Go.wp_at_zero Go.wp_at_succ

/-- A token as a value. -/
def tkV (t : Lx.Tok) : Value := .agg #[.int .i64 t.kind, .int .i64 t.f, .string ⟨t.s.toArray⟩, .bool t.whole, .int .i64 t.frm, .int .i64 t.to]

theorem units_any (f : Int) (w : World) (h0 : -9223372036854775808 ≤ f) (h1 : f ≤ 9223372036854775807) :
    Calls Tryz.prog 158 #[.int .i64 f] w fun e w' => e = .returned (.int .i64 (f.tdiv 1000)) ∧ w = w' := by
  go_enter Tryz.func158, Tryz.ntmps158
  go_wp2_with fail
  go_ret
  exact ⟨rfl, rfl⟩

theorem isCount_any (t : Lx.Tok) (w : World) :
    Calls Tryz.prog 184 #[tkV t] w fun e w' => e = .returned (.bool (wholeT t)) ∧ Kept w w' := by
  obtain ⟨k, f, s, wh, fr, tq⟩ := t
  have HV := Lib.hid (show wholeT ⟨k, f, s, wh, fr, tq⟩ = (k == 1 && wh && decide (0 ≤ f)) from rfl)
  unfold tkV
  simp only []
  cases h1 : (k == 1) <;> cases wh
  all_goals
    go_enter Tryz.func184, Tryz.ntmps184
    go_wp2_with fail
    go_ret
    exact ⟨ret_bool (by rw [HV.out, h1]; first | done | rfl | simp), (Kept.refl w).alloc _ _⟩

theorem numOf_any (t : Lx.Tok) (w : World) :
    Calls Tryz.prog 238 #[tkV t] w fun e w' => e = .returned (objV (numV t) Hd.none) ∧ Kept w w' := by
  obtain ⟨k, f, s, wh, fr, tq⟩ := t
  unfold tkV objV Hd.none numV
  simp only [Ob.k, Ob.n, Ob.f, Ob.s, Ob.l, Ob.d, List.length_nil]
  cases wh
  · go_enter Tryz.func238, Tryz.ntmps238
    go_wp2_with fail
    refine bodyPost_ret (v := .agg #[.int .i64 2, .int .i64 0, .int .i64 f, .string ⟨#[]⟩, .slice none 0 0, .slice none 0 0]) ?_ rfl ⟨rfl, ?_⟩
    · simp [results, Tryz.results238, go_sem]
    · repeat (with_reducible first | exact (Kept.refl w) | refine Kept.drew ?_ | refine Kept.alloc ?_ _ _ | refine Kept.set ?_ (by simp) _)
  · go_enter Tryz.func238, Tryz.ntmps238
    go_wp2_with fail
    refine bodyPost_ret (v := .agg #[.int .i64 2, .int .i64 1, .int .i64 f, .string ⟨#[]⟩, .slice none 0 0, .slice none 0 0]) ?_ rfl ⟨rfl, ?_⟩
    · simp [results, Tryz.results238, go_sem]
    · repeat (with_reducible first | exact (Kept.refl w) | refine Kept.drew ?_ | refine Kept.alloc ?_ _ _ | refine Kept.set ?_ (by simp) _)

theorem isWord_any (t : Lx.Tok) (l : List UInt8) (w : World) :
    Calls Tryz.prog 188 #[tkV t, .string ⟨l.toArray⟩] w fun e w' => e = .returned (.bool (isW t l)) ∧ Kept w w' := by
  obtain ⟨k, f, s, wh, fr, tq⟩ := t
  have HV := Lib.hid (show isW ⟨k, f, s, wh, fr, tq⟩ l = (k == 8 && s == l) from rfl)
  unfold tkV
  simp only []
  cases h1 : (k == 8)
  all_goals
    go_enter Tryz.func188, Tryz.ntmps188
    go_wp2_with fail
    go_ret
    exact ⟨ret_bool (by rw [HV.out, h1]; first | done | rfl | simp), (Kept.refl w).alloc _ _⟩

theorem cosWord_any (s : ByteArray) (w : World) :
    Calls Tryz.prog 227 #[.string s] w fun e w' => e = .returned (objV (.mk 3 0 0 s [] []) Hd.none) ∧ Kept w w' := by
  unfold objV Hd.none
  simp only [Ob.k, Ob.n, Ob.f, Ob.s, Ob.l, Ob.d, List.length_nil]
  go_enter Tryz.func227, Tryz.ntmps227
  go_wp2_with fail
  refine bodyPost_ret (v := .agg #[.int .i64 3, .int .i64 0, .int .i64 0, .string s, .slice none 0 0, .slice none 0 0]) ?_ rfl ⟨rfl, ?_⟩
  · simp [results, Tryz.results227, go_sem]
  · repeat (with_reducible first | exact (Kept.refl w) | refine Kept.drew ?_ | refine Kept.alloc ?_ _ _ | refine Kept.set ?_ (by simp) _)

/-- A whole number's object. -/
def intO (n : Int) : Ob := if Fx.intE n = 0 then .mk 2 1 (Fx.intV n) ⟨#[]⟩ [] [] else nul
theorem cosInt_any (n : Int) (w : World) (hn : -9223372036854775808 ≤ n) (hn' : n ≤ 9223372036854775807) :
    Calls Tryz.prog 56 #[.int .i64 n] w fun e w' => e = .returned (objV (intO n) Hd.none) ∧ Kept w w' := by
  unfold objV Hd.none
  obtain ⟨v, hv⟩ : ∃ v, v = Fx.intV n := ⟨_, rfl⟩
  obtain ⟨er, her⟩ : ∃ er, er = Fx.intE n := ⟨_, rfl⟩
  have CI := Lib.hid (show ∀ w, Calls Tryz.prog 87 #[.int .i64 n] w fun e w' => e = .returned (.tuple #[.int .i64 v, .int .i64 er]) ∧ Kept w w' from fun w => by rw [hv, her]; exact Int_any n w hn hn')
  by_cases he : er = 0
  · have HI := Lib.hid (show intO n = .mk 2 1 v ⟨#[]⟩ [] [] by unfold intO; rw [← her, if_pos he, hv])
    subst he
    clear hv her
    rw [HI.out]
    simp only [Ob.k, Ob.n, Ob.f, Ob.s, Ob.l, Ob.d, List.length_nil]
    go_enter Tryz.func56, Tryz.ntmps56
    go_wp2_with fail
    (with_reducible refine (CI.out _).mono ?_)
    rintro e w2 ⟨rfl, hk⟩
    have HB := Lib.hid ((Blk.fresh w #[.int .i64 0, .int .i64 0, .int .i64 0, .string ⟨#[]⟩, .slice none 0 0, .slice none 0 0] 39).kept hk)
    have HK := Lib.hid (((Kept.refl w).alloc #[.int .i64 0, .int .i64 0, .int .i64 0, .string ⟨#[]⟩, .slice none 0 0, .slice none 0 0] 39).trans hk)
    obtain ⟨t0, t1, t2, t3, t4, t5⟩ := HB.out.cells6
    have tf := HB.out.free
    have hz := HB.out.lt
    clear hk
    go_wp2_with fail
    refine bodyPost_ret (v := .agg #[.int .i64 2, .int .i64 1, .int .i64 v, .string ⟨#[]⟩, .slice none 0 0, .slice none 0 0]) ?_ rfl ⟨rfl, ?_⟩
    · simp [results, Tryz.results56, go_sem, t0, t1, t2, t3, t4, t5]
    · repeat (with_reducible first | exact HK.out | refine Kept.drew ?_ | refine Kept.set ?_ (Nat.le_refl _) _)
  · have HI := Lib.hid (show intO n = nul by unfold intO; rw [← her, if_neg he])
    have hne : (er != 0) = true := by simpa using he
    clear hv her he
    rw [HI.out]
    unfold nul
    simp only [Ob.k, Ob.n, Ob.f, Ob.s, Ob.l, Ob.d, List.length_nil]
    go_enter Tryz.func56, Tryz.ntmps56
    go_wp2_with fail
    (with_reducible refine (CI.out _).mono ?_)
    rintro e w2 ⟨rfl, hk⟩
    have HB := Lib.hid ((Blk.fresh w #[.int .i64 0, .int .i64 0, .int .i64 0, .string ⟨#[]⟩, .slice none 0 0, .slice none 0 0] 39).kept hk)
    have HK := Lib.hid (((Kept.refl w).alloc #[.int .i64 0, .int .i64 0, .int .i64 0, .string ⟨#[]⟩, .slice none 0 0, .slice none 0 0] 39).trans hk)
    obtain ⟨t0, t1, t2, t3, t4, t5⟩ := HB.out.cells6
    have tf := HB.out.free
    have hz := HB.out.lt
    clear hk
    go_wp2_with fail
    refine bodyPost_ret (v := .agg #[.int .i64 0, .int .i64 0, .int .i64 0, .string ⟨#[]⟩, .slice none 0 0, .slice none 0 0]) ?_ rfl ⟨rfl, ?_⟩
    · simp [results, Tryz.results56, go_sem, t0, t1, t2, t3, t4, t5]
    · repeat (with_reducible first | exact HK.out | refine Kept.drew ?_ | refine Kept.set ?_ (Nat.le_refl _) _)

end Go.Proofs.YtoablpaehhjchaaGreatDoor

namespace Go.Proofs.YtoablpaehhjchaaGreatDoor
open Go.RowKit Cx
attribute [local go_sem ↓] Go.wp_at_zero Go.wp_at_succ

abbrev nul6 : Array Value := #[.int .i64 0, .int .i64 0, .int .i64 0, .string ⟨#[]⟩, .slice none 0 0, .slice none 0 0]

theorem pairS {w wx : World} {b c : Nat} {t u : TypeId} {x0 x1 x2 x3 x4 x5 y0 y1 y2 y3 y4 y5 : Value} {l : BlkList} (h : In w ((c, #[y0, y1, y2, y3, y4, y5], t) :: (b, #[x0, x1, x2, x3, x4, x5], u) :: l) wx) :
    wx.cell? ⟨b, 1, none⟩ = some x1 ∧ wx.cell? ⟨c, 1, none⟩ = some y1 :=
  ⟨(h.mem (List.mem_cons_of_mem _ List.mem_cons_self)).cell 1, (h.mem List.mem_cons_self).cell 1⟩

set_option maxRecDepth 100000 in
set_option maxHeartbeats 4000000 in
theorem pair_any (n g : Lx.Tok) (w : World) (h0 : -9223372036854775808 ≤ n.f) (h1 : n.f ≤ 9223372036854775807) :
    Calls Tryz.prog 186 #[tkV n, tkV g] w fun e w' => e = .returned (objV (.mk 7 (n.f.tdiv 1000) g.f ⟨#[]⟩ [] []) Hd.none) ∧ Kept w w' := by
  obtain ⟨k, f, s, wh, fr, tq⟩ := n
  obtain ⟨k', f', s', wh', fr', tq'⟩ := g
  have CU := Lib.hid (fun w => units_any f w h0 h1)
  unfold tkV objV Hd.none
  simp only [Ob.k, Ob.n, Ob.f, Ob.s, Ob.l, Ob.d, List.length_nil]
  have HX := Lib.hid (In.fresh' (k := w.heap.size + 1) (In.fresh (In.start w) #[.int .i64 k, .int .i64 f, .string ⟨s.toArray⟩, .bool wh, .int .i64 fr, .int .i64 tq] 123) #[.int .i64 k', .int .i64 f', .string ⟨s'.toArray⟩, .bool wh', .int .i64 fr', .int .i64 tq'] 123 (by simp))
  have HX1 := Lib.hid (In.fresh' (k := w.heap.size + 1 + 1) HX.out nul6 39 (by simp))
  clear HX
  go_enter Tryz.func186, Tryz.ntmps186
  go_wp2_with fail
  go_region_held3 (fun w' => w'.cell? ⟨w.heap.size, 1, none⟩ = some (.int .i64 f) ∧ w'.cell? ⟨w.heap.size + 1, 1, none⟩ = some (.int .i64 f')) (first | with_reducible exact pairS HX1.out.tail | with_reducible exact pairS HX1.out.tail.drew | go_keep)
    (first | (go_at_call 158; (with_reducible refine (CU.out _).mono ?_); rintro e wn ⟨rfl, rfl⟩))
  all_goals
    go_wp2_with fail
    refine bodyPost_ret (v := .agg #[.int .i64 7, .int .i64 (f.tdiv 1000), .int .i64 f', .string ⟨#[]⟩, .slice none 0 0, .slice none 0 0]) ?_ rfl ⟨rfl, ?_⟩
    · simp [results, Tryz.results186, go_sem]
    · repeat (with_reducible first | exact (Kept.refl w) | refine Kept.drew ?_ | refine Kept.alloc ?_ _ _ | refine Kept.set ?_ (by simp) _ | refine Kept.set ?_ (by simp; omega) _)

set_option maxRecDepth 100000 in
set_option maxHeartbeats 4000000 in
theorem wordOf_any (t : Lx.Tok) (w : World) :
    Calls Tryz.prog 228 #[tkV t] w fun e w' => e = .returned (.tuple #[objV (wordV t.s).2 Hd.none, .int .i64 (wordV t.s).1]) ∧ Kept w w' := by
  obtain ⟨k, f, s, wh, fr, tq⟩ := t
  unfold tkV objV Hd.none
  simp only []
  have hs : (⟨s.toArray⟩ : ByteArray).toList = s := by rw [Lib.toList_data]
  cases h1 : (s == [116, 114, 117, 101])
  · cases h2 : (s == [102, 97, 108, 115, 101])
    · cases h3 : (s == [110, 117, 108, 108])
      · have HV := Lib.hid (show wordV s = (3, nul) by unfold wordV; rw [h1, h2, h3]; rfl)
        rw [HV.out]
        unfold nul
        simp only [Ob.k, Ob.n, Ob.f, Ob.s, Ob.l, Ob.d, List.length_nil]
        go_enter Tryz.func228, Tryz.ntmps228
        go_wp2_with fail
        refine bodyPost_ret (v := .tuple #[.agg #[.int .i64 0, .int .i64 0, .int .i64 0, .string ⟨#[]⟩, .slice none 0 0, .slice none 0 0], .int .i64 3]) ?_ rfl ⟨rfl, ?_⟩
        · simp [results, Tryz.results228, go_sem]
        · repeat (with_reducible first | exact (Kept.refl w) | refine Kept.drew ?_ | refine Kept.alloc ?_ _ _ | refine Kept.set ?_ (by simp) _)
      · have HV := Lib.hid (show wordV s = (0, nul) by unfold wordV; rw [h1, h2, h3]; rfl)
        rw [HV.out]
        unfold nul
        simp only [Ob.k, Ob.n, Ob.f, Ob.s, Ob.l, Ob.d, List.length_nil]
        go_enter Tryz.func228, Tryz.ntmps228
        go_wp2_with fail
        refine bodyPost_ret (v := .tuple #[.agg #[.int .i64 0, .int .i64 0, .int .i64 0, .string ⟨#[]⟩, .slice none 0 0, .slice none 0 0], .int .i64 0]) ?_ rfl ⟨rfl, ?_⟩
        · simp [results, Tryz.results228, go_sem]
        · repeat (with_reducible first | exact (Kept.refl w) | refine Kept.drew ?_ | refine Kept.alloc ?_ _ _ | refine Kept.set ?_ (by simp) _)
    · have HV := Lib.hid (show wordV s = (0, .mk 1 0 0 ⟨#[]⟩ [] []) by unfold wordV; rw [h1, h2]; rfl)
      rw [HV.out]
      simp only [Ob.k, Ob.n, Ob.f, Ob.s, Ob.l, Ob.d, List.length_nil]
      go_enter Tryz.func228, Tryz.ntmps228
      go_wp2_with fail
      refine bodyPost_ret (v := .tuple #[.agg #[.int .i64 1, .int .i64 0, .int .i64 0, .string ⟨#[]⟩, .slice none 0 0, .slice none 0 0], .int .i64 0]) ?_ rfl ⟨rfl, ?_⟩
      · simp [results, Tryz.results228, go_sem]
      · repeat (with_reducible first | exact (Kept.refl w) | refine Kept.drew ?_ | refine Kept.alloc ?_ _ _ | refine Kept.set ?_ (by simp) _)
  · have HV := Lib.hid (show wordV s = (0, .mk 1 1 0 ⟨#[]⟩ [] []) by unfold wordV; rw [h1]; rfl)
    rw [HV.out]
    simp only [Ob.k, Ob.n, Ob.f, Ob.s, Ob.l, Ob.d, List.length_nil]
    go_enter Tryz.func228, Tryz.ntmps228
    go_wp2_with fail
    refine bodyPost_ret (v := .tuple #[.agg #[.int .i64 1, .int .i64 1, .int .i64 0, .string ⟨#[]⟩, .slice none 0 0, .slice none 0 0], .int .i64 0]) ?_ rfl ⟨rfl, ?_⟩
    · simp [results, Tryz.results228, go_sem]
    · repeat (with_reducible first | exact (Kept.refl w) | refine Kept.drew ?_ | refine Kept.alloc ?_ _ _ | refine Kept.set ?_ (by simp) _)

end Go.Proofs.YtoablpaehhjchaaGreatDoor

namespace Go.Proofs.YtoablpaehhjchaaGreatDoor
open Go.RowKit Cx
attribute [local go_sem ↓] Go.wp_at_zero Go.wp_at_succ

/-- What is left of a text: block rb holds the text, the place, how many are open. -/
def Rst (s : ByteArray) (a dep : Int) (rb : Nat) (w : World) : Prop := Blk w rb #[.string s, .int .i64 a, .int .i64 dep] 219

theorem HasMax.gb {w w' : World} {rb : Nat} (h : HasMax w) (g : w.grownBy w' (some rb)) {v : ByteArray} (hr : w.cell? ⟨rb, 0, none⟩ = some (.string v)) : HasMax w' := by
  obtain ⟨m, hm⟩ := h
  have hne : (0 : Nat) ≠ rb := by
    rintro rfl
    rw [hm] at hr; cases hr
  exact ⟨m, g.cell hm (by simpa using hne)⟩
theorem Rst.max {s : ByteArray} {a dep : Int} {rb : Nat} {w w' : World} (h : Rst s a dep rb w) (hm : HasMax w) (g : w.grownBy w' (some rb)) : HasMax w' := hm.gb g (h.cell 0)
theorem Rst.kept {s : ByteArray} {a dep : Int} {rb : Nat} {w w' : World} (h : Rst s a dep rb w) (k : Kept w w') : Rst s a dep rb w' := Blk.kept h k
theorem Rst.lt {s : ByteArray} {a dep : Int} {rb : Nat} {w : World} (h : Rst s a dep rb w) : rb < w.heap.size := Blk.lt h
theorem gb_kept {w w' : World} (k : Kept w w') (r : Option Nat) : w.grownBy w' r := ⟨k.os, k.tape, k.output, k.size, fun j hj _ => k.block j hj⟩
theorem gb_setAt (w : World) (k o : Nat) (v : Value) : w.grownBy (w.setCell ⟨k, o, none⟩ v) (some k) :=
  ⟨rfl, rfl, rfl, by simp, fun j _ hn => Below.heap_setCell w ⟨k, o, none⟩ v j (fun h => hn (by rw [h]))⟩
theorem gb_fresh {a b : World} {r : Option Nat} (h : a.grownBy b r) {k o : Nat} (hk : a.heap.size ≤ k) (v : Value) : a.grownBy (b.setCell ⟨k, o, none⟩ v) r :=
  ⟨h.os, h.tape, h.output, by have := h.size; simpa using this, fun j hj hn => (Below.heap_setCell b ⟨k, o, none⟩ v j (by simp; omega)).trans (h.block j hj hn)⟩
theorem gb_own {a b : World} {k : Nat} (h : a.grownBy b (some k)) (o : Nat) (v : Value) : a.grownBy (b.setCell ⟨k, o, none⟩ v) (some k) :=
  ⟨h.os, h.tape, h.output, by have := h.size; simpa using this, fun j hj hn => (Below.heap_setCell b ⟨k, o, none⟩ v j (fun e => hn (by simp at e; rw [e]))).trans (h.block j hj hn)⟩
theorem gb_alloc {a b : World} {r : Option Nat} (h : a.grownBy b r) (o : Obj) : a.grownBy (b.alloc o) r :=
  ⟨h.os, h.tape, h.output, by have := h.size; simp; omega, fun j hj hn => (Below.heap_alloc b o j (by have := h.size; omega)).trans (h.block j hj hn)⟩
theorem gb_drew {a b : World} {r : Option Nat} (h : a.grownBy b r) : a.grownBy b.drew r := ⟨h.os, h.tape, h.output, h.size, h.block⟩
theorem gb_drewN {a b : World} {r : Option Nat} (h : a.grownBy b r) (n : Nat) : a.grownBy (b.drewN n) r := ⟨h.os, h.tape, h.output, h.size, h.block⟩
theorem gb_thenK {a b c : World} {r : Option Nat} (h : a.grownBy b r) (k : Kept b c) : a.grownBy c r := gb_trans h (gb_kept k r)

theorem Rst.other {s : ByteArray} {a dep : Int} {rb : Nat} {w : World} (h : Rst s a dep rb w) {k o : Nat} (n : rb ≠ k) (v : Value) : Rst s a dep rb (w.setCell ⟨k, o, none⟩ v) := Blk.other h n v
theorem Rst.alloc {s : ByteArray} {a dep : Int} {rb : Nat} {w : World} (h : Rst s a dep rb w) (o : Obj) : Rst s a dep rb (w.alloc o) := Blk.alloc h o
theorem Rst.drew {s : ByteArray} {a dep : Int} {rb : Nat} {w : World} (h : Rst s a dep rb w) : Rst s a dep rb w.drew := h
theorem Rst.drewN {s : ByteArray} {a dep : Int} {rb : Nat} {w : World} (h : Rst s a dep rb w) (n : Nat) : Rst s a dep rb (w.drewN n) := h
theorem Rst.move {s : ByteArray} {a dep : Int} {rb : Nat} {w : World} (h : Rst s a dep rb w) (v : Int) : Rst s v dep rb (w.setCell ⟨rb, 1, none⟩ (.int .i64 v)) := by
  have := Blk.set h 1 (.int .i64 v)
  simpa [Rst] using this
theorem Rst.deep {s : ByteArray} {a dep : Int} {rb : Nat} {w : World} (h : Rst s a dep rb w) (v : Int) : Rst s a v rb (w.setCell ⟨rb, 2, none⟩ (.int .i64 v)) := by
  have := Blk.set h 2 (.int .i64 v)
  simpa [Rst] using this
theorem restS {w wx : World} {b c : Nat} {t u : TypeId} {x0 x1 x2 : Value} {cs : Array Value} (h : In w [(c, cs, u), (b, #[x0, x1, x2], t)] wx) :
    wx.cell? ⟨b, 0, none⟩ = some x0 ∧ wx.cell? ⟨b, 1, none⟩ = some x1 :=
  ⟨(h.mem (List.mem_cons_of_mem _ List.mem_cons_self)).cell 0, (h.mem (List.mem_cons_of_mem _ List.mem_cons_self)).cell 1⟩

set_option maxRecDepth 100000 in
set_option maxHeartbeats 4000000 in
theorem token_any (s : ByteArray) (a dep : Int) (rb : Nat) (w : World) (hs : s.size ≤ 4294967295) (hm : HasMax w) (hr : Rst s a dep rb w) (T : Int × Lx.Tok) (hT : T = Lx.nextV s.data.toList a) :
    Calls Tryz.prog 208 #[.pointer (some ⟨rb, 0, none⟩)] w fun e w' =>
      e = .returned (.tuple #[tkV T.2, .int .i64 T.1]) ∧ Rst s (if T.1 = 0 then (T.2.to : Int) else a) dep rb w' ∧ w.grownBy w' (some rb) := by
  obtain ⟨er, kd, fv, st, wh, fr, tq⟩ := T
  have HT := Lib.hid hT
  have HM := Lib.hid hm
  have HR := Lib.hid hr
  have hrb := hr.lt
  unfold tkV
  simp only []
  have HX := Lib.hid ((In.start w).cons hr)
  have HX1 := Lib.hid (In.fresh HX.out #[.int .i64 0, .int .i64 0, .string ⟨#[]⟩, .bool false, .int .i64 0, .int .i64 0] 123)
  clear HX
  have HX := HX1
  clear HX1
  have rf := Blk.free hr
  have h0 := Blk.cell hr 0
  have h1 := Blk.cell hr 1
  simp at h0 h1
  have ne0 : w.heap.size ≠ rb := by omega
  have ne1 : w.heap.size + 1 ≠ rb := by omega
  have HW := Lib.hid (show w.heap.size ≤ w.heap.size + 1 from Nat.le_succ _)
  have NT := Lib.hid (show ∀ x ∈ [((w.heap.size : Nat), (#[.int .i64 0, .int .i64 0, .string ⟨#[]⟩, .bool false, .int .i64 0, .int .i64 0] : Array Value), (123 : TypeId)), ((rb : Nat), (#[.string s, .int .i64 a, .int .i64 dep] : Array Value), (219 : TypeId))], x.1 ≠ w.heap.size + 1 from fun x hx => by
    simp at hx
    rcases hx with rfl | rfl <;> simp <;> omega)
  have CN := Lib.hid (show ∀ wx, Kept w wx → Calls Tryz.prog 95 #[.string s, .int .i64 a] wx fun e w' => e = .returned (.tuple #[.agg #[.int .i64 kd, .int .i64 fv, .string ⟨st.toArray⟩, .bool wh, .int .i64 fr, .int .i64 tq], .int .i64 er]) ∧ Kept wx w' from
    fun wx hk => Next_any s a wx (by omega) (hm.kept hk) _ hT)
  clear hT hm hr
  by_cases he : er = 0
  · subst he
    rw [if_pos rfl]
    go_enter Tryz.func208, Tryz.ntmps208
    go_wp2_with fail
    go_region_held3 (fun w' => w'.cell? ⟨rb, 0, none⟩ = some (.string s) ∧ w'.cell? ⟨rb, 1, none⟩ = some (.int .i64 a)) (go_keep)
      (first | (go_at_call 95; (first | (with_reducible refine (CN.out _ (In.k HX.out)).mono ?_) | (with_reducible refine (CN.out _ (In.k HX.out.drew)).mono ?_) | (with_reducible refine (CN.out _ (In.k (HX.out.alloc _))).mono ?_) | (with_reducible refine (CN.out _ (In.k (HX.out.alloc _).drew)).mono ?_)); rintro e wn ⟨rfl, kn⟩; (first | ((with_reducible have HZ := Lib.hid (Blk.kept (Blk.drew (Blk.fresh' (b := w.heap.size + 1) #[.int .i64 0, .int .i64 0, .string ⟨#[]⟩, .bool false, .int .i64 0, .int .i64 0] 123 (by simp))) kn)); (with_reducible have HX := Lib.hid (In.kept (In.drew (In.alloc HX.out (.cells #[.int .i64 0, .int .i64 0, .string ⟨#[]⟩, .bool false, .int .i64 0, .int .i64 0] 123 (0, 0)))) kn)); obtain ⟨y0, y1, y2, y3, y4, y5⟩ := HZ.out.cells6; have yf := HZ.out.free; obtain ⟨r0, r1, r2, r3, r4, r5⟩ := (HX.out.mem List.mem_cons_self).cells6; have rz := (HX.out.mem List.mem_cons_self).free; have hz := (HX.out.mem List.mem_cons_self).lt; obtain ⟨c0, c1⟩ := restS HX.out) | ((with_reducible have HX := Lib.hid (In.kept HX.out kn)); obtain ⟨r0, r1, r2, r3, r4, r5⟩ := (HX.out.mem List.mem_cons_self).cells6; have rz := (HX.out.mem List.mem_cons_self).free; have hz := (HX.out.mem List.mem_cons_self).lt; obtain ⟨c0, c1⟩ := restS HX.out) | ((with_reducible have HX := Lib.hid (In.kept (In.drew HX.out) kn)); obtain ⟨r0, r1, r2, r3, r4, r5⟩ := (HX.out.mem List.mem_cons_self).cells6; have rz := (HX.out.mem List.mem_cons_self).free; have hz := (HX.out.mem List.mem_cons_self).lt; obtain ⟨c0, c1⟩ := restS HX.out))))
    all_goals
      have HR3 := Lib.hid (show Rst s a dep rb wn from HX.out.mem (List.mem_cons_of_mem _ List.mem_cons_self))
      have rfn := Blk.free HR3.out
      have rbz := HR3.out.lt
      have HG3 := Lib.hid (gb_kept (In.k HX.out) (some rb))
      go_wp2_with fail
      refine bodyPost_ret (v := .tuple #[.agg #[.int .i64 kd, .int .i64 fv, .string ⟨st.toArray⟩, .bool wh, .int .i64 fr, .int .i64 tq], .int .i64 0]) ?_ rfl ⟨by rfl, ?_, ?_⟩
      · simp [results, Tryz.results208, go_sem, r0, r1, r2, r3, r4, r5, hz]
      · repeat (with_reducible first | exact HR3.out | refine Rst.move (a := a) ?_ _ | refine Rst.drew ?_ | refine Rst.alloc ?_ _ | refine Rst.other ?_ (by first | omega | exact Ne.symm ‹_›) _)
      · repeat (with_reducible first | exact HG3.out | refine gb_own ?_ _ _ | refine gb_drew ?_ | refine gb_alloc ?_ _ | refine gb_fresh ?_ (by first | exact Nat.le_refl _ | exact Nat.le_succ _) _)
  · have HZT := Lib.hid (show (⟨kd, fv, st, wh, fr, tq⟩ : Lx.Tok) = Lx.zero by
      have := Lx.next_zero_of s.data.toList a (by rw [← HT.out]; exact he)
      rw [← HT.out] at this; exact this)
    have hne : (er != 0) = true := by simpa using he
    rw [if_neg he]
    have z0 : kd = 0 := congrArg Lx.Tok.kind HZT.out
    have z1 : fv = 0 := congrArg Lx.Tok.f HZT.out
    have z2 : st = [] := congrArg Lx.Tok.s HZT.out
    have z3 : wh = false := congrArg Lx.Tok.whole HZT.out
    have z4 : fr = 0 := congrArg Lx.Tok.frm HZT.out
    have z5 : tq = 0 := congrArg Lx.Tok.to HZT.out
    clear HZT
    subst z0 z1 z2 z3 z4 z5
    clear he
    go_enter Tryz.func208, Tryz.ntmps208
    go_wp2_with fail
    go_region_held3 (fun w' => w'.cell? ⟨rb, 0, none⟩ = some (.string s) ∧ w'.cell? ⟨rb, 1, none⟩ = some (.int .i64 a)) (go_keep)
      (first | (go_at_call 95; (first | (with_reducible refine (CN.out _ (In.k HX.out)).mono ?_) | (with_reducible refine (CN.out _ (In.k HX.out.drew)).mono ?_) | (with_reducible refine (CN.out _ (In.k (HX.out.alloc _))).mono ?_) | (with_reducible refine (CN.out _ (In.k (HX.out.alloc _).drew)).mono ?_)); rintro e wn ⟨rfl, kn⟩; (first | ((with_reducible have HZ := Lib.hid (Blk.kept (Blk.drew (Blk.fresh' (b := w.heap.size + 1) #[.int .i64 0, .int .i64 0, .string ⟨#[]⟩, .bool false, .int .i64 0, .int .i64 0] 123 (by simp))) kn)); (with_reducible have HX := Lib.hid (In.kept (In.drew (In.alloc HX.out (.cells #[.int .i64 0, .int .i64 0, .string ⟨#[]⟩, .bool false, .int .i64 0, .int .i64 0] 123 (0, 0)))) kn)); obtain ⟨y0, y1, y2, y3, y4, y5⟩ := HZ.out.cells6; have yf := HZ.out.free; obtain ⟨r0, r1, r2, r3, r4, r5⟩ := (HX.out.mem List.mem_cons_self).cells6; have rz := (HX.out.mem List.mem_cons_self).free; have hz := (HX.out.mem List.mem_cons_self).lt; obtain ⟨c0, c1⟩ := restS HX.out) | ((with_reducible have HX := Lib.hid (In.kept HX.out kn)); obtain ⟨r0, r1, r2, r3, r4, r5⟩ := (HX.out.mem List.mem_cons_self).cells6; have rz := (HX.out.mem List.mem_cons_self).free; have hz := (HX.out.mem List.mem_cons_self).lt; obtain ⟨c0, c1⟩ := restS HX.out) | ((with_reducible have HX := Lib.hid (In.kept (In.drew HX.out) kn)); obtain ⟨r0, r1, r2, r3, r4, r5⟩ := (HX.out.mem List.mem_cons_self).cells6; have rz := (HX.out.mem List.mem_cons_self).free; have hz := (HX.out.mem List.mem_cons_self).lt; obtain ⟨c0, c1⟩ := restS HX.out))))
    all_goals
      have HR3 := Lib.hid (show Rst s a dep rb wn from HX.out.mem (List.mem_cons_of_mem _ List.mem_cons_self))
      have rfn := Blk.free HR3.out
      have rbz := HR3.out.lt
      have HG3 := Lib.hid (gb_kept (In.k HX.out) (some rb))
      go_wp2_with fail
      refine bodyPost_ret (v := .tuple #[.agg #[.int .i64 0, .int .i64 0, .string ⟨#[]⟩, .bool false, .int .i64 0, .int .i64 0], .int .i64 er]) ?_ rfl ⟨by rfl, ?_, ?_⟩
      · simp [results, Tryz.results208, go_sem, r0, r1, r2, r3, r4, r5, hz]
      · repeat (with_reducible first | exact HR3.out | refine Rst.move (a := a) ?_ _ | refine Rst.drew ?_ | refine Rst.alloc ?_ _ | refine Rst.other ?_ (by first | omega | exact Ne.symm ‹_›) _)
      · repeat (with_reducible first | exact HG3.out | refine gb_own ?_ _ _ | refine gb_drew ?_ | refine gb_alloc ?_ _ | refine gb_fresh ?_ (by first | exact Nat.le_refl _ | exact Nat.le_succ _) _)

end Go.Proofs.YtoablpaehhjchaaGreatDoor
