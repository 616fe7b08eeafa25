/-
  What the small functions of package cos on tokens answer.
  A number, a Ref, a Word as objects; the next token of what is left of a text.
  The next token of what is left of a text.
  'InR w rb l wx': behind w lies wx: nothing but block rb has turned, and the blocks of the list l are known whole. What the rest's refOf and numberOf answer.
  What the rest's numberOf answers: a Num, or the Ref that it begins.
-/
import Derived.Test.YtbgdeaeikijdgaaGreatDoorLexM
import Derived.Test.YtbgdeaeikijdgaaGreatDoorCosLies
import Derived.Test.YtbgdeaeikijdgaaGreatDoorLexW2
import Derived.Test.YtbgdeaeikijdgaaGreatDoorFixW
import Derived.Deep.RegionHeld3
import Derived.Deep.DrawnRows
import Derived.Test.YtbgdeaeikijdgaaGreatDoorXBase
namespace Go.Proofs.YtbgdeaeikijdgaaGreatDoor
open Go.RowKit Cx
attribute [local go_sem ↓] Go.wp_at_zero Go.wp_at_succ

/-- A token as a value. -/
def tkV (t : Lx.Tok) : Value := .agg #[.int .i64 t.kind, .int .i64 t.f, .string ⟨t.s.toArray⟩, .bool t.whole, .int .i64 t.frm, .int .i64 t.to]

theorem units_any (f : Int) (w : World) (h0 : -9223372036854775808 ≤ f) (h1 : f ≤ 9223372036854775807) :
    Calls Tryz.prog 240 #[.int .i64 f] w fun e w' => e = .returned (.int .i64 (f.tdiv 1000)) ∧ w = w' := by
  go_enter Tryz.func240, Tryz.ntmps240
  go_wp2_with fail
  go_ret
  exact ⟨rfl, rfl⟩

theorem isCount_any (t : Lx.Tok) (w : World) :
    Calls Tryz.prog 207 #[tkV t] w fun e w' => e = .returned (.bool (wholeT t)) ∧ Kept w w' := by
  obtain ⟨k, f, s, wh, fr, tq⟩ := t
  have HV := Lib.hid (show wholeT ⟨k, f, s, wh, fr, tq⟩ = (k == 1 && wh && decide (0 ≤ f)) from rfl)
  unfold tkV
  simp only []
  cases h1 : (k == 1) <;> cases wh
  all_goals
    go_enter Tryz.func207, Tryz.ntmps207
    go_wp2_with fail
    go_ret
    exact ⟨ret_bool (by rw [HV.out, h1]; first | done | rfl | simp), (Kept.refl w).alloc _ _⟩

theorem numOf_any (t : Lx.Tok) (w : World) :
    Calls Tryz.prog 208 #[tkV t] w fun e w' => e = .returned (objV (numV t) Hd.none) ∧ Kept w w' := by
  obtain ⟨k, f, s, wh, fr, tq⟩ := t
  unfold tkV objV Hd.none numV
  simp only [Ob.k, Ob.n, Ob.f, Ob.s, Ob.l, Ob.d, List.length_nil]
  cases wh
  · go_enter Tryz.func208, Tryz.ntmps208
    go_wp2_with fail
    refine bodyPost_ret (v := .agg #[.int .i64 2, .int .i64 0, .int .i64 f, .string ⟨#[]⟩, .slice none 0 0, .slice none 0 0]) ?_ rfl ⟨rfl, ?_⟩
    · simp [results, Tryz.results208, go_sem]
    · repeat (with_reducible first | exact (Kept.refl w) | refine Kept.drew ?_ | refine Kept.alloc ?_ _ _ | refine Kept.set ?_ (by simp) _)
  · go_enter Tryz.func208, Tryz.ntmps208
    go_wp2_with fail
    refine bodyPost_ret (v := .agg #[.int .i64 2, .int .i64 1, .int .i64 f, .string ⟨#[]⟩, .slice none 0 0, .slice none 0 0]) ?_ rfl ⟨rfl, ?_⟩
    · simp [results, Tryz.results208, go_sem]
    · repeat (with_reducible first | exact (Kept.refl w) | refine Kept.drew ?_ | refine Kept.alloc ?_ _ _ | refine Kept.set ?_ (by simp) _)

theorem isWord_any (t : Lx.Tok) (l : List UInt8) (w : World) :
    Calls Tryz.prog 226 #[tkV t, .string ⟨l.toArray⟩] w fun e w' => e = .returned (.bool (isW t l)) ∧ Kept w w' := by
  obtain ⟨k, f, s, wh, fr, tq⟩ := t
  have HV := Lib.hid (show isW ⟨k, f, s, wh, fr, tq⟩ l = (k == 8 && s == l) from rfl)
  unfold tkV
  simp only []
  cases h1 : (k == 8)
  all_goals
    go_enter Tryz.func226, Tryz.ntmps226
    go_wp2_with fail
    go_ret
    exact ⟨ret_bool (by rw [HV.out, h1]; first | done | rfl | simp), (Kept.refl w).alloc _ _⟩

theorem cosWord_any (s : ByteArray) (w : World) :
    Calls Tryz.prog 182 #[.string s] w fun e w' => e = .returned (objV (.mk 3 0 0 s [] []) Hd.none) ∧ Kept w w' := by
  unfold objV Hd.none
  simp only [Ob.k, Ob.n, Ob.f, Ob.s, Ob.l, Ob.d, List.length_nil]
  go_enter Tryz.func182, Tryz.ntmps182
  go_wp2_with fail
  refine bodyPost_ret (v := .agg #[.int .i64 3, .int .i64 0, .int .i64 0, .string s, .slice none 0 0, .slice none 0 0]) ?_ rfl ⟨rfl, ?_⟩
  · simp [results, Tryz.results182, go_sem]
  · repeat (with_reducible first | exact (Kept.refl w) | refine Kept.drew ?_ | refine Kept.alloc ?_ _ _ | refine Kept.set ?_ (by simp) _)

end Go.Proofs.YtbgdeaeikijdgaaGreatDoor

namespace Go.Proofs.YtbgdeaeikijdgaaGreatDoor
open Go.RowKit Cx
attribute [local go_sem ↓] Go.wp_at_zero Go.wp_at_succ

abbrev nul6 : Array Value := #[.int .i64 0, .int .i64 0, .int .i64 0, .string ⟨#[]⟩, .slice none 0 0, .slice none 0 0]

theorem pairS {w wx : World} {b c : Nat} {t u : TypeId} {x0 x1 x2 x3 x4 x5 y0 y1 y2 y3 y4 y5 : Value} {l : BlkList} (h : In w ((c, #[y0, y1, y2, y3, y4, y5], t) :: (b, #[x0, x1, x2, x3, x4, x5], u) :: l) wx) :
    wx.cell? ⟨b, 1, none⟩ = some x1 ∧ wx.cell? ⟨c, 1, none⟩ = some y1 :=
  ⟨(h.mem (List.mem_cons_of_mem _ List.mem_cons_self)).cell 1, (h.mem List.mem_cons_self).cell 1⟩

set_option maxRecDepth 100000 in
set_option maxHeartbeats 4000000 in
theorem pair_any (n g : Lx.Tok) (w : World) (h0 : -9223372036854775808 ≤ n.f) (h1 : n.f ≤ 9223372036854775807) :
    Calls Tryz.prog 227 #[tkV n, tkV g] w fun e w' => e = .returned (objV (.mk 7 (n.f.tdiv 1000) g.f ⟨#[]⟩ [] []) Hd.none) ∧ Kept w w' := by
  obtain ⟨k, f, s, wh, fr, tq⟩ := n
  obtain ⟨k', f', s', wh', fr', tq'⟩ := g
  have CU := Lib.hid (fun w => units_any f w h0 h1)
  unfold tkV objV Hd.none
  simp only [Ob.k, Ob.n, Ob.f, Ob.s, Ob.l, Ob.d, List.length_nil]
  have HX := Lib.hid (In.fresh' (k := w.heap.size + 1) (In.fresh (In.start w) #[.int .i64 k, .int .i64 f, .string ⟨s.toArray⟩, .bool wh, .int .i64 fr, .int .i64 tq] 108) #[.int .i64 k', .int .i64 f', .string ⟨s'.toArray⟩, .bool wh', .int .i64 fr', .int .i64 tq'] 108 (by simp))
  have HX1 := Lib.hid (In.fresh' (k := w.heap.size + 1 + 1) HX.out nul6 43 (by simp))
  clear HX
  go_enter Tryz.func227, Tryz.ntmps227
  go_wp2_with fail
  go_region_held3 (fun w' => w'.cell? ⟨w.heap.size, 1, none⟩ = some (.int .i64 f) ∧ w'.cell? ⟨w.heap.size + 1, 1, none⟩ = some (.int .i64 f')) (first | with_reducible exact pairS HX1.out.tail | with_reducible exact pairS HX1.out.tail.drew | go_keep)
    (first | (go_at_call 240; (with_reducible refine (CU.out _).mono ?_); rintro e wn ⟨rfl, rfl⟩))
  all_goals
    go_wp2_with fail
    refine bodyPost_ret (v := .agg #[.int .i64 7, .int .i64 (f.tdiv 1000), .int .i64 f', .string ⟨#[]⟩, .slice none 0 0, .slice none 0 0]) ?_ rfl ⟨rfl, ?_⟩
    · simp [results, Tryz.results227, go_sem]
    · repeat (with_reducible first | exact (Kept.refl w) | refine Kept.drew ?_ | refine Kept.alloc ?_ _ _ | refine Kept.set ?_ (by simp) _ | refine Kept.set ?_ (by simp; omega) _)

set_option maxRecDepth 100000 in
set_option maxHeartbeats 4000000 in
theorem wordOf_any (t : Lx.Tok) (w : World) :
    Calls Tryz.prog 183 #[tkV t] w fun e w' => e = .returned (.tuple #[objV (wordV t.s).2 Hd.none, .int .i64 (wordV t.s).1]) ∧ Kept w w' := by
  obtain ⟨k, f, s, wh, fr, tq⟩ := t
  unfold tkV objV Hd.none
  simp only []
  have hs : (⟨s.toArray⟩ : ByteArray).toList = s := by rw [Lib.toList_data]
  cases h1 : (s == [116, 114, 117, 101])
  · cases h2 : (s == [102, 97, 108, 115, 101])
    · cases h3 : (s == [110, 117, 108, 108])
      · have HV := Lib.hid (show wordV s = (3, nul) by unfold wordV; rw [h1, h2, h3]; rfl)
        rw [HV.out]
        unfold nul
        simp only [Ob.k, Ob.n, Ob.f, Ob.s, Ob.l, Ob.d, List.length_nil]
        go_enter Tryz.func183, Tryz.ntmps183
        go_wp2_with fail
        refine bodyPost_ret (v := .tuple #[.agg #[.int .i64 0, .int .i64 0, .int .i64 0, .string ⟨#[]⟩, .slice none 0 0, .slice none 0 0], .int .i64 3]) ?_ rfl ⟨rfl, ?_⟩
        · simp [results, Tryz.results183, go_sem]
        · repeat (with_reducible first | exact (Kept.refl w) | refine Kept.drew ?_ | refine Kept.alloc ?_ _ _ | refine Kept.set ?_ (by simp) _)
      · have HV := Lib.hid (show wordV s = (0, nul) by unfold wordV; rw [h1, h2, h3]; rfl)
        rw [HV.out]
        unfold nul
        simp only [Ob.k, Ob.n, Ob.f, Ob.s, Ob.l, Ob.d, List.length_nil]
        go_enter Tryz.func183, Tryz.ntmps183
        go_wp2_with fail
        refine bodyPost_ret (v := .tuple #[.agg #[.int .i64 0, .int .i64 0, .int .i64 0, .string ⟨#[]⟩, .slice none 0 0, .slice none 0 0], .int .i64 0]) ?_ rfl ⟨rfl, ?_⟩
        · simp [results, Tryz.results183, go_sem]
        · repeat (with_reducible first | exact (Kept.refl w) | refine Kept.drew ?_ | refine Kept.alloc ?_ _ _ | refine Kept.set ?_ (by simp) _)
    · have HV := Lib.hid (show wordV s = (0, .mk 1 0 0 ⟨#[]⟩ [] []) by unfold wordV; rw [h1, h2]; rfl)
      rw [HV.out]
      simp only [Ob.k, Ob.n, Ob.f, Ob.s, Ob.l, Ob.d, List.length_nil]
      go_enter Tryz.func183, Tryz.ntmps183
      go_wp2_with fail
      refine bodyPost_ret (v := .tuple #[.agg #[.int .i64 1, .int .i64 0, .int .i64 0, .string ⟨#[]⟩, .slice none 0 0, .slice none 0 0], .int .i64 0]) ?_ rfl ⟨rfl, ?_⟩
      · simp [results, Tryz.results183, go_sem]
      · repeat (with_reducible first | exact (Kept.refl w) | refine Kept.drew ?_ | refine Kept.alloc ?_ _ _ | refine Kept.set ?_ (by simp) _)
  · have HV := Lib.hid (show wordV s = (0, .mk 1 1 0 ⟨#[]⟩ [] []) by unfold wordV; rw [h1]; rfl)
    rw [HV.out]
    simp only [Ob.k, Ob.n, Ob.f, Ob.s, Ob.l, Ob.d, List.length_nil]
    go_enter Tryz.func183, Tryz.ntmps183
    go_wp2_with fail
    refine bodyPost_ret (v := .tuple #[.agg #[.int .i64 1, .int .i64 1, .int .i64 0, .string ⟨#[]⟩, .slice none 0 0, .slice none 0 0], .int .i64 0]) ?_ rfl ⟨rfl, ?_⟩
    · simp [results, Tryz.results183, go_sem]
    · repeat (with_reducible first | exact (Kept.refl w) | refine Kept.drew ?_ | refine Kept.alloc ?_ _ _ | refine Kept.set ?_ (by simp) _)

end Go.Proofs.YtbgdeaeikijdgaaGreatDoor

namespace Go.Proofs.YtbgdeaeikijdgaaGreatDoor
open Go.RowKit Cx
attribute [local go_sem ↓] Go.wp_at_zero Go.wp_at_succ

/-- What is left of a text: block rb holds the text, the place, how many are open. -/
def Rst (s : ByteArray) (a dep : Int) (rb : Nat) (w : World) : Prop := Blk w rb #[.string s, .int .i64 a, .int .i64 dep] 181

theorem HasMax.gb {w w' : World} {rb : Nat} (h : HasMax w) (g : w.grownBy w' (some rb)) {v : ByteArray} (hr : w.cell? ⟨rb, 0, none⟩ = some (.string v)) : HasMax w' := by
  obtain ⟨m, hm⟩ := h
  have hne : (0 : Nat) ≠ rb := by
    rintro rfl
    rw [hm] at hr; cases hr
  exact ⟨m, g.cell hm (by simpa using hne)⟩
theorem Rst.max {s : ByteArray} {a dep : Int} {rb : Nat} {w w' : World} (h : Rst s a dep rb w) (hm : HasMax w) (g : w.grownBy w' (some rb)) : HasMax w' := hm.gb g (h.cell 0)
theorem Rst.kept {s : ByteArray} {a dep : Int} {rb : Nat} {w w' : World} (h : Rst s a dep rb w) (k : Kept w w') : Rst s a dep rb w' := Blk.kept h k
theorem Rst.lt {s : ByteArray} {a dep : Int} {rb : Nat} {w : World} (h : Rst s a dep rb w) : rb < w.heap.size := Blk.lt h
theorem gb_kept {w w' : World} (k : Kept w w') (r : Option Nat) : w.grownBy w' r := ⟨k.os, k.tape, k.output, k.size, fun j hj _ => k.block j hj⟩
theorem gb_setAt (w : World) (k o : Nat) (v : Value) : w.grownBy (w.setCell ⟨k, o, none⟩ v) (some k) :=
  ⟨rfl, rfl, rfl, by simp, fun j _ hn => Below.heap_setCell w ⟨k, o, none⟩ v j (fun h => hn (by rw [h]))⟩
theorem gb_fresh {a b : World} {r : Option Nat} (h : a.grownBy b r) {k o : Nat} (hk : a.heap.size ≤ k) (v : Value) : a.grownBy (b.setCell ⟨k, o, none⟩ v) r :=
  ⟨h.os, h.tape, h.output, by have := h.size; simpa using this, fun j hj hn => (Below.heap_setCell b ⟨k, o, none⟩ v j (by simp; omega)).trans (h.block j hj hn)⟩
theorem gb_own {a b : World} {k : Nat} (h : a.grownBy b (some k)) (o : Nat) (v : Value) : a.grownBy (b.setCell ⟨k, o, none⟩ v) (some k) :=
  ⟨h.os, h.tape, h.output, by have := h.size; simpa using this, fun j hj hn => (Below.heap_setCell b ⟨k, o, none⟩ v j (fun e => hn (by simp at e; rw [e]))).trans (h.block j hj hn)⟩
theorem gb_alloc {a b : World} {r : Option Nat} (h : a.grownBy b r) (o : Obj) : a.grownBy (b.alloc o) r :=
  ⟨h.os, h.tape, h.output, by have := h.size; simp; omega, fun j hj hn => (Below.heap_alloc b o j (by have := h.size; omega)).trans (h.block j hj hn)⟩
theorem gb_drew {a b : World} {r : Option Nat} (h : a.grownBy b r) : a.grownBy b.drew r := ⟨h.os, h.tape, h.output, h.size, h.block⟩
theorem gb_drewN {a b : World} {r : Option Nat} (h : a.grownBy b r) (n : Nat) : a.grownBy (b.drewN n) r := ⟨h.os, h.tape, h.output, h.size, h.block⟩
theorem gb_thenK {a b c : World} {r : Option Nat} (h : a.grownBy b r) (k : Kept b c) : a.grownBy c r := gb_trans h (gb_kept k r)

theorem Rst.other {s : ByteArray} {a dep : Int} {rb : Nat} {w : World} (h : Rst s a dep rb w) {k o : Nat} (n : rb ≠ k) (v : Value) : Rst s a dep rb (w.setCell ⟨k, o, none⟩ v) := Blk.other h n v
theorem Rst.alloc {s : ByteArray} {a dep : Int} {rb : Nat} {w : World} (h : Rst s a dep rb w) (o : Obj) : Rst s a dep rb (w.alloc o) := Blk.alloc h o
theorem Rst.drew {s : ByteArray} {a dep : Int} {rb : Nat} {w : World} (h : Rst s a dep rb w) : Rst s a dep rb w.drew := h
theorem Rst.drewN {s : ByteArray} {a dep : Int} {rb : Nat} {w : World} (h : Rst s a dep rb w) (n : Nat) : Rst s a dep rb (w.drewN n) := h
theorem Rst.move {s : ByteArray} {a dep : Int} {rb : Nat} {w : World} (h : Rst s a dep rb w) (v : Int) : Rst s v dep rb (w.setCell ⟨rb, 1, none⟩ (.int .i64 v)) := by
  have := Blk.set h 1 (.int .i64 v)
  simpa [Rst] using this
theorem Rst.deep {s : ByteArray} {a dep : Int} {rb : Nat} {w : World} (h : Rst s a dep rb w) (v : Int) : Rst s a v rb (w.setCell ⟨rb, 2, none⟩ (.int .i64 v)) := by
  have := Blk.set h 2 (.int .i64 v)
  simpa [Rst] using this
theorem restS {w wx : World} {b c : Nat} {t u : TypeId} {x0 x1 x2 : Value} {cs : Array Value} (h : In w [(c, cs, u), (b, #[x0, x1, x2], t)] wx) :
    wx.cell? ⟨b, 0, none⟩ = some x0 ∧ wx.cell? ⟨b, 1, none⟩ = some x1 :=
  ⟨(h.mem (List.mem_cons_of_mem _ List.mem_cons_self)).cell 0, (h.mem (List.mem_cons_of_mem _ List.mem_cons_self)).cell 1⟩

set_option maxRecDepth 100000 in
set_option maxHeartbeats 4000000 in
theorem token_any (s : ByteArray) (a dep : Int) (rb : Nat) (w : World) (hs : s.size ≤ 4294967295) (hm : HasMax w) (hr : Rst s a dep rb w) (T : Int × Lx.Tok) (hT : T = Lx.nextV s.data.toList a) :
    Calls Tryz.prog 154 #[.pointer (some ⟨rb, 0, none⟩)] w fun e w' =>
      e = .returned (.tuple #[tkV T.2, .int .i64 T.1]) ∧ Rst s (if T.1 = 0 then (T.2.to : Int) else a) dep rb w' ∧ w.grownBy w' (some rb) := by
  obtain ⟨er, kd, fv, st, wh, fr, tq⟩ := T
  have HT := Lib.hid hT
  have HM := Lib.hid hm
  have HR := Lib.hid hr
  have hrb := hr.lt
  unfold tkV
  simp only []
  have HX := Lib.hid ((In.start w).cons hr)
  have HX1 := Lib.hid (In.fresh HX.out #[.int .i64 0, .int .i64 0, .string ⟨#[]⟩, .bool false, .int .i64 0, .int .i64 0] 108)
  clear HX
  have HX := HX1
  clear HX1
  have rf := Blk.free hr
  have h0 := Blk.cell hr 0
  have h1 := Blk.cell hr 1
  simp at h0 h1
  have ne0 : w.heap.size ≠ rb := by omega
  have ne1 : w.heap.size + 1 ≠ rb := by omega
  have HW := Lib.hid (show w.heap.size ≤ w.heap.size + 1 from Nat.le_succ _)
  have NT := Lib.hid (show ∀ x ∈ [((w.heap.size : Nat), (#[.int .i64 0, .int .i64 0, .string ⟨#[]⟩, .bool false, .int .i64 0, .int .i64 0] : Array Value), (108 : TypeId)), ((rb : Nat), (#[.string s, .int .i64 a, .int .i64 dep] : Array Value), (181 : TypeId))], x.1 ≠ w.heap.size + 1 from fun x hx => by
    simp at hx
    rcases hx with rfl | rfl <;> simp <;> omega)
  have CN := Lib.hid (show ∀ wx, Kept w wx → Calls Tryz.prog 44 #[.string s, .int .i64 a] wx fun e w' => e = .returned (.tuple #[.agg #[.int .i64 kd, .int .i64 fv, .string ⟨st.toArray⟩, .bool wh, .int .i64 fr, .int .i64 tq], .int .i64 er]) ∧ Kept wx w' from
    fun wx hk => Next_any s a wx (by omega) (hm.kept hk) _ hT)
  clear hT hm hr
  by_cases he : er = 0
  · subst he
    rw [if_pos rfl]
    go_enter Tryz.func154, Tryz.ntmps154
    go_wp2_with fail
    go_region_held3 (fun w' => w'.cell? ⟨rb, 0, none⟩ = some (.string s) ∧ w'.cell? ⟨rb, 1, none⟩ = some (.int .i64 a)) (go_keep)
      (first | (go_at_call 44; (first | (with_reducible refine (CN.out _ (In.k HX.out)).mono ?_) | (with_reducible refine (CN.out _ (In.k HX.out.drew)).mono ?_) | (with_reducible refine (CN.out _ (In.k (HX.out.alloc _))).mono ?_) | (with_reducible refine (CN.out _ (In.k (HX.out.alloc _).drew)).mono ?_)); rintro e wn ⟨rfl, kn⟩; (first | ((with_reducible have HZ := Lib.hid (Blk.kept (Blk.drew (Blk.fresh' (b := w.heap.size + 1) #[.int .i64 0, .int .i64 0, .string ⟨#[]⟩, .bool false, .int .i64 0, .int .i64 0] 108 (by simp))) kn)); (with_reducible have HX := Lib.hid (In.kept (In.drew (In.alloc HX.out (.cells #[.int .i64 0, .int .i64 0, .string ⟨#[]⟩, .bool false, .int .i64 0, .int .i64 0] 108 (0, 0)))) kn)); obtain ⟨y0, y1, y2, y3, y4, y5⟩ := HZ.out.cells6; have yf := HZ.out.free; obtain ⟨r0, r1, r2, r3, r4, r5⟩ := (HX.out.mem List.mem_cons_self).cells6; have rz := (HX.out.mem List.mem_cons_self).free; have hz := (HX.out.mem List.mem_cons_self).lt; obtain ⟨c0, c1⟩ := restS HX.out) | ((with_reducible have HX := Lib.hid (In.kept HX.out kn)); obtain ⟨r0, r1, r2, r3, r4, r5⟩ := (HX.out.mem List.mem_cons_self).cells6; have rz := (HX.out.mem List.mem_cons_self).free; have hz := (HX.out.mem List.mem_cons_self).lt; obtain ⟨c0, c1⟩ := restS HX.out) | ((with_reducible have HX := Lib.hid (In.kept (In.drew HX.out) kn)); obtain ⟨r0, r1, r2, r3, r4, r5⟩ := (HX.out.mem List.mem_cons_self).cells6; have rz := (HX.out.mem List.mem_cons_self).free; have hz := (HX.out.mem List.mem_cons_self).lt; obtain ⟨c0, c1⟩ := restS HX.out))))
    all_goals
      have HR3 := Lib.hid (show Rst s a dep rb wn from HX.out.mem (List.mem_cons_of_mem _ List.mem_cons_self))
      have rfn := Blk.free HR3.out
      have rbz := HR3.out.lt
      have HG3 := Lib.hid (gb_kept (In.k HX.out) (some rb))
      go_wp2_with fail
      refine bodyPost_ret (v := .tuple #[.agg #[.int .i64 kd, .int .i64 fv, .string ⟨st.toArray⟩, .bool wh, .int .i64 fr, .int .i64 tq], .int .i64 0]) ?_ rfl ⟨by rfl, ?_, ?_⟩
      · simp [results, Tryz.results154, go_sem, r0, r1, r2, r3, r4, r5, hz]
      · repeat (with_reducible first | exact HR3.out | refine Rst.move (a := a) ?_ _ | refine Rst.drew ?_ | refine Rst.alloc ?_ _ | refine Rst.other ?_ (by first | omega | exact Ne.symm ‹_›) _)
      · repeat (with_reducible first | exact HG3.out | refine gb_own ?_ _ _ | refine gb_drew ?_ | refine gb_alloc ?_ _ | refine gb_fresh ?_ (by first | exact Nat.le_refl _ | exact Nat.le_succ _) _)
  · have HZT := Lib.hid (show (⟨kd, fv, st, wh, fr, tq⟩ : Lx.Tok) = Lx.zero by
      have := Lx.next_zero_of s.data.toList a (by rw [← HT.out]; exact he)
      rw [← HT.out] at this; exact this)
    have hne : (er != 0) = true := by simpa using he
    rw [if_neg he]
    have z0 : kd = 0 := congrArg Lx.Tok.kind HZT.out
    have z1 : fv = 0 := congrArg Lx.Tok.f HZT.out
    have z2 : st = [] := congrArg Lx.Tok.s HZT.out
    have z3 : wh = false := congrArg Lx.Tok.whole HZT.out
    have z4 : fr = 0 := congrArg Lx.Tok.frm HZT.out
    have z5 : tq = 0 := congrArg Lx.Tok.to HZT.out
    clear HZT
    subst z0 z1 z2 z3 z4 z5
    clear he
    go_enter Tryz.func154, Tryz.ntmps154
    go_wp2_with fail
    go_region_held3 (fun w' => w'.cell? ⟨rb, 0, none⟩ = some (.string s) ∧ w'.cell? ⟨rb, 1, none⟩ = some (.int .i64 a)) (go_keep)
      (first | (go_at_call 44; (first | (with_reducible refine (CN.out _ (In.k HX.out)).mono ?_) | (with_reducible refine (CN.out _ (In.k HX.out.drew)).mono ?_) | (with_reducible refine (CN.out _ (In.k (HX.out.alloc _))).mono ?_) | (with_reducible refine (CN.out _ (In.k (HX.out.alloc _).drew)).mono ?_)); rintro e wn ⟨rfl, kn⟩; (first | ((with_reducible have HZ := Lib.hid (Blk.kept (Blk.drew (Blk.fresh' (b := w.heap.size + 1) #[.int .i64 0, .int .i64 0, .string ⟨#[]⟩, .bool false, .int .i64 0, .int .i64 0] 108 (by simp))) kn)); (with_reducible have HX := Lib.hid (In.kept (In.drew (In.alloc HX.out (.cells #[.int .i64 0, .int .i64 0, .string ⟨#[]⟩, .bool false, .int .i64 0, .int .i64 0] 108 (0, 0)))) kn)); obtain ⟨y0, y1, y2, y3, y4, y5⟩ := HZ.out.cells6; have yf := HZ.out.free; obtain ⟨r0, r1, r2, r3, r4, r5⟩ := (HX.out.mem List.mem_cons_self).cells6; have rz := (HX.out.mem List.mem_cons_self).free; have hz := (HX.out.mem List.mem_cons_self).lt; obtain ⟨c0, c1⟩ := restS HX.out) | ((with_reducible have HX := Lib.hid (In.kept HX.out kn)); obtain ⟨r0, r1, r2, r3, r4, r5⟩ := (HX.out.mem List.mem_cons_self).cells6; have rz := (HX.out.mem List.mem_cons_self).free; have hz := (HX.out.mem List.mem_cons_self).lt; obtain ⟨c0, c1⟩ := restS HX.out) | ((with_reducible have HX := Lib.hid (In.kept (In.drew HX.out) kn)); obtain ⟨r0, r1, r2, r3, r4, r5⟩ := (HX.out.mem List.mem_cons_self).cells6; have rz := (HX.out.mem List.mem_cons_self).free; have hz := (HX.out.mem List.mem_cons_self).lt; obtain ⟨c0, c1⟩ := restS HX.out))))
    all_goals
      have HR3 := Lib.hid (show Rst s a dep rb wn from HX.out.mem (List.mem_cons_of_mem _ List.mem_cons_self))
      have rfn := Blk.free HR3.out
      have rbz := HR3.out.lt
      have HG3 := Lib.hid (gb_kept (In.k HX.out) (some rb))
      go_wp2_with fail
      refine bodyPost_ret (v := .tuple #[.agg #[.int .i64 0, .int .i64 0, .string ⟨#[]⟩, .bool false, .int .i64 0, .int .i64 0], .int .i64 er]) ?_ rfl ⟨by rfl, ?_, ?_⟩
      · simp [results, Tryz.results154, go_sem, r0, r1, r2, r3, r4, r5, hz]
      · repeat (with_reducible first | exact HR3.out | refine Rst.move (a := a) ?_ _ | refine Rst.drew ?_ | refine Rst.alloc ?_ _ | refine Rst.other ?_ (by first | omega | exact Ne.symm ‹_›) _)
      · repeat (with_reducible first | exact HG3.out | refine gb_own ?_ _ _ | refine gb_drew ?_ | refine gb_alloc ?_ _ | refine gb_fresh ?_ (by first | exact Nat.le_refl _ | exact Nat.le_succ _) _)

end Go.Proofs.YtbgdeaeikijdgaaGreatDoor

namespace Go.Proofs.YtbgdeaeikijdgaaGreatDoor
open Go.RowKit Cx

def InR (w : World) (rb : Nat) (l : BlkList) (wx : World) : Prop := w.grownBy wx (some rb) ∧ (∀ x ∈ l, Blk wx x.1 x.2.1 x.2.2 ∧ x.1 ≠ rb) ∧ rb < w.heap.size

section
variable {w wx w' : World} {rb k : Nat} {l : BlkList} {cs : Array Value} {t : TypeId}
theorem InR.start (w : World) {rb : Nat} (h : rb < w.heap.size) : InR w rb [] w := ⟨gb_refl _ _, fun _ h => absurd h List.not_mem_nil, h⟩
theorem InR.gb (h : InR w rb l wx) (g : wx.grownBy w' (some rb)) : InR w rb l w' := ⟨gb_trans h.1 g, fun x m => ⟨(h.2.1 x m).1.gb g (by simpa using (h.2.1 x m).2), (h.2.1 x m).2⟩, h.2.2⟩
theorem InR.kept (h : InR w rb l wx) (q : Kept wx w') : InR w rb l w' := h.gb (gb_kept q _)
theorem InR.drew (h : InR w rb l wx) : InR w rb l wx.drew := ⟨gb_drew h.1, h.2.1, h.2.2⟩
theorem InR.drewN (h : InR w rb l wx) (n : Nat) : InR w rb l (wx.drewN n) := ⟨gb_drewN h.1 n, h.2.1, h.2.2⟩
theorem InR.alloc (h : InR w rb l wx) (o : Obj) : InR w rb l (wx.alloc o) := h.gb (World.grownBy_alloc _ _ _)
theorem InR.mem (h : InR w rb l wx) (m : (k, cs, t) ∈ l) : Blk wx k cs t := (h.2.1 _ m).1
theorem InR.lt (h : InR w rb l wx) : rb < wx.heap.size := Nat.lt_of_lt_of_le h.2.2 h.1.size
theorem InR.fresh' (h : InR w rb l wx) (cs : Array Value) (t : TypeId) (e : k = wx.heap.size) : InR w rb ((k, cs, t) :: l) (wx.alloc (.cells cs t (0, 0))) :=
  ⟨(h.alloc _).1, fun x m => by
    rcases List.mem_cons.1 m with rfl | m
    · exact ⟨Blk.fresh' cs t e, by have := h.lt; simp only []; omega⟩
    · exact (h.alloc _).2.1 x m, h.2.2⟩
theorem InR.fresh (h : InR w rb l wx) (cs : Array Value) (t : TypeId) : InR w rb ((wx.heap.size, cs, t) :: l) (wx.alloc (.cells cs t (0, 0))) := h.fresh' cs t rfl
theorem InR.own (h : InR w rb l wx) (o : Nat) (v : Value) : InR w rb l (wx.setCell ⟨rb, o, none⟩ v) := h.gb (gb_setAt _ _ _ _)
theorem InR.g (h : InR w rb l wx) : w.grownBy wx (some rb) := h.1
end

/-- The Ref that begins with a number, if the rest of one is next: is it one? -/
def refB (l : List UInt8) (a : Int) : Bool := wholeT (Lx.nextV l a).2 && isW (Lx.nextV l (Lx.nextV l a).2.to).2 [82]
def refO (n : Lx.Tok) (l : List UInt8) (a : Int) : Ob := if refB l a then .mk 7 (n.f.tdiv 1000) (Lx.nextV l a).2.f ⟨#[]⟩ [] [] else nul
theorem whole_ok {l : List UInt8} {a : Int} (h : wholeT (Lx.nextV l a).2 = true) : (Lx.nextV l a).1 = 0 := by
  by_cases e : (Lx.nextV l a).1 = 0
  · exact e
  · rw [Lx.next_zero_of l a e] at h; exact absurd h (by decide)
theorem isW_ok {l : List UInt8} {a : Int} {s : List UInt8} (h : isW (Lx.nextV l a).2 s = true) : (Lx.nextV l a).1 = 0 := by
  by_cases e : (Lx.nextV l a).1 = 0
  · exact e
  · rw [Lx.next_zero_of l a e] at h; exact absurd h (by simp [isW, Lx.zero])

set_option maxRecDepth 100000 in
set_option maxHeartbeats 4000000 in
theorem refOf_any (n : Lx.Tok) (s : ByteArray) (a dep : Int) (rb : Nat) (w : World) (hs : s.size ≤ 4294967295) (hm : HasMax w) (hr : Rst s a dep rb w) (h0 : -9223372036854775808 ≤ n.f) (h1 : n.f ≤ 9223372036854775807) :
    Calls Tryz.prog 209 #[.pointer (some ⟨rb, 0, none⟩), tkV n] w fun e w' =>
      e = .returned (.tuple #[objV (refO n s.data.toList a) Hd.none, .bool (refB s.data.toList a)]) ∧ (refB s.data.toList a = true → Rst s (Lx.nextV s.data.toList (Lx.nextV s.data.toList a).2.to).2.to dep rb w') ∧ w.grownBy w' (some rb) := by
  have HM := Lib.hid hm
  have HR := Lib.hid hr
  have CP := Lib.hid (fun g w => pair_any n g w h0 h1)
  have H0 := Lib.hid (InR.start w hr.lt)
  obtain ⟨G, hG⟩ : ∃ G, G = Lx.nextV s.data.toList a := ⟨_, rfl⟩
  have HG := Lib.hid hG
  have HB := Lib.hid (show refB s.data.toList a = (wholeT G.2 && isW (Lx.nextV s.data.toList G.2.to).2 [82]) by rw [hG]; rfl)
  have HO := Lib.hid (show refO n s.data.toList a = if refB s.data.toList a then .mk 7 (n.f.tdiv 1000) G.2.f ⟨#[]⟩ [] [] else nul by rw [hG]; rfl)
  have HOK := Lib.hid (fun h : wholeT G.2 = true => show G.1 = 0 by rw [hG] at h ⊢; exact whole_ok h)
  rw [← HG.out]
  clear hm hr hG h0 h1
  obtain ⟨nk, nf, ns, nw, nr, nt⟩ := n
  unfold tkV
  unfold tkV at CP
  simp only [] at CP HO ⊢
  have H1 := Lib.hid (InR.fresh' (k := w.heap.size + 1) (InR.fresh H0.out #[.int .i64 nk, .int .i64 nf, .string ⟨ns.toArray⟩, .bool nw, .int .i64 nr, .int .i64 nt] 108) nul6 43 (by simp))
  have R1 := Lib.hid ((HR.out.alloc (.cells #[.int .i64 nk, .int .i64 nf, .string ⟨ns.toArray⟩, .bool nw, .int .i64 nr, .int .i64 nt] 108)).alloc (.cells nul6 43))
  clear H0
  go_enter Tryz.func209, Tryz.ntmps209
  go_wp2_with fail
  (with_reducible refine (token_any s a dep rb _ hs (HR.out.max HM.out H1.out.g) R1.out G HG.out).mono ?_)
  rintro e w2 ⟨rfl, hr2, hg2⟩
  have H2 := Lib.hid (InR.fresh (H1.out.gb hg2) #[.int .i64 G.2.kind, .int .i64 G.2.f, .string ⟨G.2.s.toArray⟩, .bool G.2.whole, .int .i64 G.2.frm, .int .i64 G.2.to] 108)
  have R2 := Lib.hid (hr2.alloc (.cells #[.int .i64 G.2.kind, .int .i64 G.2.f, .string ⟨G.2.s.toArray⟩, .bool G.2.whole, .int .i64 G.2.frm, .int .i64 G.2.to] 108))
  clear hr2 hg2 H1 R1
  unfold tkV
  go_wp2_with fail
  have CC := isCount_any G.2
  unfold tkV at CC
  (with_reducible refine (CC _).mono ?_)
  rintro e w3 ⟨rfl, hk3⟩
  have H3 := Lib.hid (H2.out.kept hk3)
  have R3 := Lib.hid (R2.out.kept hk3)
  obtain ⟨u0, u1, u2, u3, u4, u5⟩ := (H3.out.mem (List.mem_cons_of_mem _ (List.mem_cons_self))).cells6
  have uf := (H3.out.mem (List.mem_cons_of_mem _ (List.mem_cons_self))).free
  have uz := (H3.out.mem (List.mem_cons_of_mem _ (List.mem_cons_self))).lt
  clear hk3 H2 R2 CC
  cases hW : wholeT G.2
  · have HB1 := Lib.hid (show refB s.data.toList a = false by rw [HB.out, hW]; rfl)
    have HO1 := Lib.hid (show refO ⟨nk, nf, ns, nw, nr, nt⟩ s.data.toList a = nul by rw [HO.out, HB1.out]; rfl)
    go_wp2_with fail
    refine bodyPost_ret (v := .tuple #[.agg nul6, .bool false]) ?_ rfl ⟨by rw [HB1.out, HO1.out]; rfl, fun h => (by rw [HB1.out] at h; cases h), ?_⟩
    · simp [results, Tryz.results209, go_sem, u0, u1, u2, u3, u4, u5]
    · repeat (with_reducible first | exact H3.out.g | refine gb_drew ?_ | refine gb_alloc ?_ _ | refine gb_fresh ?_ (by first | exact Nat.le_refl _ | exact Nat.le_succ _) _)
  · have R4 := Lib.hid (show Rst s (G.2.to : Int) dep rb w3 by
      have := R3.out
      rwa [if_pos (HOK.out hW)] at this)
    obtain ⟨U, hU⟩ : ∃ U, U = Lx.nextV s.data.toList (G.2.to : Int) := ⟨_, rfl⟩
    have HU := Lib.hid hU
    have HBB := Lib.hid (show refB s.data.toList a = isW U.2 [82] by rw [HB.out, hW, hU]; rfl)
    have HUK := Lib.hid (fun h : isW U.2 [82] = true => show U.1 = 0 by rw [hU] at h ⊢; exact isW_ok h)
    clear hU
    go_wp2_with fail
    (with_reducible refine (token_any s (G.2.to : Int) dep rb _ hs (HR.out.max HM.out H3.out.g) R4.out U HU.out).mono ?_)
    rintro e w4 ⟨rfl, hr4, hg4⟩
    have H4 := Lib.hid (InR.fresh (H3.out.gb hg4) #[.int .i64 U.2.kind, .int .i64 U.2.f, .string ⟨U.2.s.toArray⟩, .bool U.2.whole, .int .i64 U.2.frm, .int .i64 U.2.to] 108)
    have R5 := Lib.hid (hr4.alloc (.cells #[.int .i64 U.2.kind, .int .i64 U.2.f, .string ⟨U.2.s.toArray⟩, .bool U.2.whole, .int .i64 U.2.frm, .int .i64 U.2.to] 108))
    clear hr4 hg4 H3 R3 R4 u0 u1 u2 u3 u4 u5 uf uz
    unfold tkV
    go_wp2_with fail
    have CW := isWord_any U.2 [82]
    unfold tkV at CW
    (with_reducible refine (CW _).mono ?_)
    rintro e w5 ⟨rfl, hk5⟩
    have H5 := Lib.hid (H4.out.kept hk5)
    have R6 := Lib.hid (R5.out.kept hk5)
    obtain ⟨u0, u1, u2, u3, u4, u5⟩ := (H5.out.mem (List.mem_cons_of_mem _ (List.mem_cons_of_mem _ (List.mem_cons_self)))).cells6
    have uf := (H5.out.mem (List.mem_cons_of_mem _ (List.mem_cons_of_mem _ (List.mem_cons_self)))).free
    have uz := (H5.out.mem (List.mem_cons_of_mem _ (List.mem_cons_of_mem _ (List.mem_cons_self)))).lt
    clear hk5 H4 R5 CW
    cases hX : isW U.2 [82]
    · have HB1 := Lib.hid (show refB s.data.toList a = false by rw [HBB.out, hX])
      have HO1 := Lib.hid (show refO ⟨nk, nf, ns, nw, nr, nt⟩ s.data.toList a = nul by rw [HO.out, HB1.out]; rfl)
      go_wp2_with fail
      refine bodyPost_ret (v := .tuple #[.agg nul6, .bool false]) ?_ rfl ⟨by rw [HB1.out, HO1.out]; rfl, fun h => (by rw [HB1.out] at h; cases h), ?_⟩
      · simp [results, Tryz.results209, go_sem, u0, u1, u2, u3, u4, u5]
      · repeat (with_reducible first | exact H5.out.g | refine gb_drew ?_ | refine gb_alloc ?_ _ | refine gb_fresh ?_ (by first | exact Nat.le_refl _ | exact Nat.le_succ _) _)
    · have HB1 := Lib.hid (show refB s.data.toList a = true by rw [HBB.out, hX])
      have HO1 := Lib.hid (show refO ⟨nk, nf, ns, nw, nr, nt⟩ s.data.toList a = .mk 7 (nf.tdiv 1000) G.2.f ⟨#[]⟩ [] [] by rw [HO.out, HB1.out]; rfl)
      have R7 := Lib.hid (show Rst s (U.2.to : Int) dep rb w5 by
        have := R6.out
        rwa [if_pos (HUK.out hX)] at this)
      obtain ⟨g0, g1, g2, g3, g4, g5⟩ := (H5.out.mem (List.mem_cons_of_mem _ (List.mem_cons_self))).cells6
      have gz := (H5.out.mem (List.mem_cons_of_mem _ (List.mem_cons_self))).lt
      obtain ⟨n0, n1, n2, n3, n4, n5⟩ := (H5.out.mem (List.mem_cons_of_mem _ (List.mem_cons_of_mem _ (List.mem_cons_of_mem _ (List.mem_cons_self))))).cells6
      have nz := (H5.out.mem (List.mem_cons_of_mem _ (List.mem_cons_of_mem _ (List.mem_cons_of_mem _ (List.mem_cons_self))))).lt
      have CPG := CP.out G.2
      unfold objV Hd.none at CPG
      simp only [Ob.k, Ob.n, Ob.f, Ob.s, Ob.l, Ob.d, List.length_nil] at CPG
      have CG := Lib.hid CPG
      clear CPG R6
      go_wp2_with fail
      (with_reducible refine (CG.out _).mono ?_)
      rintro e w6 ⟨rfl, hk6⟩
      have H6 := Lib.hid (H5.out.kept hk6)
      have R8 := Lib.hid (R7.out.kept hk6)
      clear hk6 u0 u1 u2 u3 u4 u5 uf uz n0 n1 n2 n3 n4 n5 g0 g1 g2 g3 g4 g5 nz gz
      obtain ⟨u0, u1, u2, u3, u4, u5⟩ := (H6.out.mem (List.mem_cons_of_mem _ (List.mem_cons_of_mem _ (List.mem_cons_self)))).cells6
      have uf := (H6.out.mem (List.mem_cons_of_mem _ (List.mem_cons_of_mem _ (List.mem_cons_self)))).free
      have uz := (H6.out.mem (List.mem_cons_of_mem _ (List.mem_cons_of_mem _ (List.mem_cons_self)))).lt
      have rne : w.heap.size + 1 ≠ rb := ((H6.out.2.1 _ (List.mem_cons_of_mem _ (List.mem_cons_of_mem _ (List.mem_cons_self)))).2)
      go_wp2_with fail
      refine bodyPost_ret (v := .tuple #[.agg #[.int .i64 7, .int .i64 (nf.tdiv 1000), .int .i64 G.2.f, .string ⟨#[]⟩, .slice none 0 0, .slice none 0 0], .bool true]) ?_ rfl ⟨by rw [HB1.out, HO1.out]; rfl, fun _ => ?_, ?_⟩
      · simp [results, Tryz.results209, go_sem, u0, u1, u2, u3, u4, u5]
      · rw [← HU.out]
        repeat (with_reducible first | exact R8.out | refine Rst.drew ?_ | refine Rst.alloc ?_ _ | refine Rst.other ?_ (Ne.symm rne) _)
      · repeat (with_reducible first | exact H6.out.g | refine gb_drew ?_ | refine gb_alloc ?_ _ | refine gb_fresh ?_ (by first | exact Nat.le_refl _ | exact Nat.le_succ _) _)

end Go.Proofs.YtbgdeaeikijdgaaGreatDoor

namespace Go.Proofs.YtbgdeaeikijdgaaGreatDoor
open Go.RowKit Cx

theorem numberV_eq (l : List UInt8) (t : Lx.Tok) : numberV l t = if wholeT t && refB l t.to then (refO t l t.to, (Lx.nextV l (Lx.nextV l t.to).2.to).2.to) else (numV t, t.to) := by
  unfold numberV refO refB
  rw [Lx.tokOf_next, Lx.tokOf_next]
  cases h1 : wholeT t <;> cases h2 : wholeT (Lx.nextV l (t.to : Int)).2 <;> cases h3 : isW (Lx.nextV l ((Lx.nextV l (t.to : Int)).2.to : Int)).2 [82] <;> simp

theorem Rst.cells {s : ByteArray} {a dep : Int} {rb : Nat} {w : World} (h : Rst s a dep rb w) : w.cell? ⟨rb, 0, none⟩ = some (.string s) ∧ w.cell? ⟨rb, 1, none⟩ = some (.int .i64 a) ∧ w.cell? ⟨rb, 2, none⟩ = some (.int .i64 dep) := ⟨Blk.cell h 0, Blk.cell h 1, Blk.cell h 2⟩
theorem Rst.all {s : ByteArray} {a dep : Int} {rb : Nat} {w : World} (h : Rst s a dep rb w) (s' : ByteArray) (a' dep' : Int) : Rst s' a' dep' rb (((w.setCell ⟨rb, 0, none⟩ (.string s')).setCell ⟨rb, 1, none⟩ (.int .i64 a')).setCell ⟨rb, 2, none⟩ (.int .i64 dep')) := by
  have := Blk.set (Blk.set (Blk.set h 0 (.string s')) 1 (.int .i64 a')) 2 (.int .i64 dep')
  simpa [Rst] using this

theorem gb_new {w w' : World} {o : Obj} (h : (w.alloc o).grownBy w' (some w.heap.size)) : Kept w w' :=
  ⟨h.os, h.tape, h.output, by have := h.size; simp at this; omega, fun j hj => by
    rw [h.block j (by simp; omega) (by simp; omega)]; exact Below.heap_alloc w o j hj⟩

set_option maxRecDepth 100000 in
set_option maxHeartbeats 4000000 in
theorem numberOf_any (n : Lx.Tok) (s : ByteArray) (dep : Int) (rb : Nat) (w : World) (hs : s.size ≤ 4294967295) (hm : HasMax w) (hr : Rst s (n.to : Int) dep rb w) (h0 : -9223372036854775808 ≤ n.f) (h1 : n.f ≤ 9223372036854775807) :
    Calls Tryz.prog 181 #[.pointer (some ⟨rb, 0, none⟩), tkV n] w fun e w' =>
      e = .returned (objV (numberV s.data.toList n).1 Hd.none) ∧ Rst s ((numberV s.data.toList n).2 : Nat) dep rb w' ∧ w.grownBy w' (some rb) := by
  have HM := Lib.hid hm
  have HR := Lib.hid hr
  have HV := Lib.hid (numberV_eq s.data.toList n)
  have H0 := Lib.hid (InR.start w hr.lt)
  have CR := Lib.hid (fun (rb : Nat) (w : World) (hm : HasMax w) (hr : Rst s (n.to : Int) dep rb w) => refOf_any n s (n.to : Int) dep rb w hs hm hr h0 h1)
  have CC := Lib.hid (isCount_any n)
  have CN := Lib.hid (numOf_any n)
  obtain ⟨b, hb⟩ : ∃ b, b = wholeT n := ⟨_, rfl⟩
  obtain ⟨rf, hrf⟩ : ∃ rf, rf = refB s.data.toList (n.to : Int) := ⟨_, rfl⟩
  have HB := Lib.hid hb
  have HRF := Lib.hid hrf
  rw [← HB.out, ← HRF.out] at HV
  rw [← HB.out] at CC
  rw [← HRF.out] at CR
  clear hm hr h0 h1 hb hrf
  obtain ⟨nk, nf, ns, nw, nr, nt⟩ := n
  obtain ⟨m, hm2⟩ : ∃ m, numV ⟨nk, nf, ns, nw, nr, nt⟩ = .mk 2 m nf ⟨#[]⟩ [] [] := ⟨_, rfl⟩
  have HM2 := Lib.hid hm2
  rw [HM2.out] at CN
  clear hm2
  unfold tkV
  unfold tkV at CC CN CR
  unfold objV Hd.none at CN
  simp only [Ob.k, Ob.n, Ob.f, Ob.s, Ob.l, Ob.d, List.length_nil] at CN
  simp only [] at CC CR HR ⊢
  have H1 := Lib.hid (InR.fresh' (k := w.heap.size + 1) (InR.fresh H0.out #[.int .i64 nk, .int .i64 nf, .string ⟨ns.toArray⟩, .bool nw, .int .i64 nr, .int .i64 nt] 108) nul6 43 (by simp))
  have R1 := Lib.hid ((HR.out.alloc (.cells #[.int .i64 nk, .int .i64 nf, .string ⟨ns.toArray⟩, .bool nw, .int .i64 nr, .int .i64 nt] 108)).alloc (.cells nul6 43))
  clear H0
  go_enter Tryz.func181, Tryz.ntmps181
  go_wp2_with fail
  (with_reducible refine (CC.out _).mono ?_)
  rintro e w2 ⟨rfl, hk2⟩
  have H2 := Lib.hid (H1.out.kept hk2)
  have R2 := Lib.hid (R1.out.kept hk2)
  obtain ⟨u0, u1, u2, u3, u4, u5⟩ := (H2.out.mem (List.mem_cons_self)).cells6
  have uf := (H2.out.mem (List.mem_cons_self)).free
  have uz := (H2.out.mem (List.mem_cons_self)).lt
  obtain ⟨n0, n1, n2, n3, n4, n5⟩ := (H2.out.mem (List.mem_cons_of_mem _ (List.mem_cons_self))).cells6
  have nz := (H2.out.mem (List.mem_cons_of_mem _ (List.mem_cons_self))).lt
  obtain ⟨c0, c1, c2⟩ := R2.out.cells
  have rz := R2.out.lt
  clear hk2 H1 R1
  cases b
  · have HV1 := Lib.hid (show numberV s.data.toList ⟨nk, nf, ns, nw, nr, nt⟩ = (numV ⟨nk, nf, ns, nw, nr, nt⟩, nt) by rw [HV.out]; rfl)
    go_wp2_with fail
    (with_reducible refine (CN.out _).mono ?_)
    rintro e w5 ⟨rfl, hk5⟩
    have H5 := Lib.hid (H2.out.kept hk5)
    have R5 := Lib.hid (R2.out.kept hk5)
    clear hk5 u0 u1 u2 u3 u4 u5 uf uz n0 n1 n2 n3 n4 n5 nz c0 c1 c2 rz
    obtain ⟨u0, u1, u2, u3, u4, u5⟩ := (H5.out.mem (List.mem_cons_self)).cells6
    have uf := (H5.out.mem (List.mem_cons_self)).free
    have uz := (H5.out.mem (List.mem_cons_self)).lt
    have rne : w.heap.size + 1 ≠ rb := ((H5.out.2.1 _ (List.mem_cons_self)).2)
    go_wp2_with fail
    refine bodyPost_ret (v := .agg #[.int .i64 2, .int .i64 m, .int .i64 nf, .string ⟨#[]⟩, .slice none 0 0, .slice none 0 0]) ?_ rfl ⟨by rw [HV1.out, HM2.out]; rfl, ?_, ?_⟩
    · simp [results, Tryz.results181, go_sem, u0, u1, u2, u3, u4, u5]
    · rw [HV1.out]
      repeat (with_reducible first | exact R5.out | refine Rst.drew ?_ | refine Rst.alloc ?_ _ | refine Rst.other ?_ (Ne.symm rne) _)
    · repeat (with_reducible first | exact H5.out.g | refine gb_drew ?_ | refine gb_alloc ?_ _ | refine gb_fresh ?_ (by first | exact Nat.le_refl _ | exact Nat.le_succ _) _)
  · go_wp2_with fail
    have A0 := Lib.hid (show Rst s (nt : Int) dep w2.heap.size (w2.alloc (.cells #[.string s, .int .i64 nt, .int .i64 dep] 181)) from Blk.fresh w2 _ _)
    (with_reducible refine (CR.out w2.heap.size _ (((HR.out.max HM.out H2.out.g)).kept ((Kept.refl w2).alloc _ _)) A0.out).mono ?_)
    rintro e w3 ⟨rfl, ha3, hg3⟩
    have HA3 := Lib.hid ha3
    have K3 := Lib.hid (gb_new hg3)
    have H3 := Lib.hid (InR.fresh' (k := w3.heap.size) (H2.out.kept K3.out) nul6 43 rfl)
    clear ha3 hg3 A0
    cases rf
    · have HV1 := Lib.hid (show numberV s.data.toList ⟨nk, nf, ns, nw, nr, nt⟩ = (numV ⟨nk, nf, ns, nw, nr, nt⟩, nt) by rw [HV.out]; rfl)
      have R3 := Lib.hid ((R2.out.kept K3.out).alloc (.cells nul6 43))
      have HO := Lib.hid (show refO ⟨nk, nf, ns, nw, nr, nt⟩ s.data.toList (nt : Int) = nul by unfold refO; rw [← HRF.out]; rfl)
      rw [HO.out]
      unfold objV nul Hd.none
      simp only [Ob.k, Ob.n, Ob.f, Ob.s, Ob.l, Ob.d, List.length_nil]
      clear u0 u1 u2 u3 u4 u5 uf uz n0 n1 n2 n3 n4 n5 nz c0 c1 c2 rz
      obtain ⟨u0, u1, u2, u3, u4, u5⟩ := (H3.out.mem (List.mem_cons_of_mem _ List.mem_cons_self)).cells6
      have uf := (H3.out.mem (List.mem_cons_of_mem _ List.mem_cons_self)).free
      have uz := (H3.out.mem (List.mem_cons_of_mem _ List.mem_cons_self)).lt
      obtain ⟨n0, n1, n2, n3, n4, n5⟩ := ((H2.out.kept K3.out).mem (List.mem_cons_of_mem _ (List.mem_cons_self))).cells6
      have nz := ((H2.out.kept K3.out).mem (List.mem_cons_of_mem _ (List.mem_cons_self))).lt
      obtain ⟨c0, c1, c2⟩ := R3.out.cells
      have rz := R3.out.lt
      go_wp2_with fail
      (with_reducible refine (CN.out _).mono ?_)
      rintro e w5 ⟨rfl, hk5⟩
      have H5 := Lib.hid (H3.out.kept hk5)
      have R5 := Lib.hid (R3.out.kept hk5)
      clear hk5 u0 u1 u2 u3 u4 u5 uf uz n0 n1 n2 n3 n4 n5 nz c0 c1 c2 rz
      obtain ⟨u0, u1, u2, u3, u4, u5⟩ := (H5.out.mem (List.mem_cons_of_mem _ List.mem_cons_self)).cells6
      have uf := (H5.out.mem (List.mem_cons_of_mem _ List.mem_cons_self)).free
      have uz := (H5.out.mem (List.mem_cons_of_mem _ List.mem_cons_self)).lt
      have rne : w.heap.size + 1 ≠ rb := ((H5.out.2.1 _ (List.mem_cons_of_mem _ List.mem_cons_self)).2)
      go_wp2_with fail
      refine bodyPost_ret (v := .agg #[.int .i64 2, .int .i64 m, .int .i64 nf, .string ⟨#[]⟩, .slice none 0 0, .slice none 0 0]) ?_ rfl ⟨by rw [HV1.out, HM2.out]; rfl, ?_, ?_⟩
      · simp [results, Tryz.results181, go_sem, u0, u1, u2, u3, u4, u5]
      · rw [HV1.out]
        repeat (with_reducible first | exact R5.out | refine Rst.drew ?_ | refine Rst.alloc ?_ _ | refine Rst.other ?_ (Ne.symm rne) _)
      · repeat (with_reducible first | exact H5.out.g | refine gb_drew ?_ | refine gb_alloc ?_ _ | refine gb_fresh ?_ (by first | exact Nat.le_refl _ | exact Nat.le_succ _) _)
    · obtain ⟨X, hX⟩ : ∃ X : Nat, X = (Lx.nextV s.data.toList (Lx.nextV s.data.toList (nt : Int)).2.to).2.to := ⟨_, rfl⟩
      obtain ⟨gf, hgf⟩ : ∃ gf, gf = (Lx.nextV s.data.toList (nt : Int)).2.f := ⟨_, rfl⟩
      have HO := Lib.hid (show refO ⟨nk, nf, ns, nw, nr, nt⟩ s.data.toList (nt : Int) = .mk 7 (nf.tdiv 1000) gf ⟨#[]⟩ [] [] by unfold refO; rw [← HRF.out, hgf]; rfl)
      have HV1 := Lib.hid (show numberV s.data.toList ⟨nk, nf, ns, nw, nr, nt⟩ = (.mk 7 (nf.tdiv 1000) gf ⟨#[]⟩ [] [], X) by rw [HV.out, HO.out, hX]; rfl)
      have RA := Lib.hid (show Rst s (X : Int) dep w2.heap.size w3 by rw [hX]; exact HA3.out rfl)
      have R3 := Lib.hid (R2.out.kept K3.out)
      rw [HO.out]
      unfold objV Hd.none
      simp only [Ob.k, Ob.n, Ob.f, Ob.s, Ob.l, Ob.d, List.length_nil]
      clear u0 u1 u2 u3 u4 u5 uf uz n0 n1 n2 n3 n4 n5 nz c0 c1 c2 rz hX hgf HA3
      obtain ⟨v0, v1, v2, v3, v4, v5⟩ := ((H2.out.kept K3.out).mem List.mem_cons_self).cells6
      have uf := ((H2.out.kept K3.out).mem (List.mem_cons_self)).free
      have uz := ((H2.out.kept K3.out).mem (List.mem_cons_self)).lt
      obtain ⟨c0, c1, c2⟩ := R3.out.cells
      obtain ⟨a0, a1, a2⟩ := RA.out.cells
      have rz := R3.out.lt
      have az := RA.out.lt
      have rfz := Blk.free R3.out
      have rne : w.heap.size + 1 ≠ rb := ((H3.out.2.1 _ (List.mem_cons_of_mem _ List.mem_cons_self)).2)
      go_wp2_with fail
      refine bodyPost_ret (v := .agg #[.int .i64 7, .int .i64 (nf.tdiv 1000), .int .i64 gf, .string ⟨#[]⟩, .slice none 0 0, .slice none 0 0]) ?_ rfl ⟨by rw [HV1.out]; rfl, ?_, ?_⟩
      · simp [results, Tryz.results181, go_sem, v0, v1, v2, v3, v4, v5, uz]
      · rw [HV1.out]
        repeat (with_reducible first | exact R3.out | refine Rst.all (a := (nt : Int)) (dep := dep) (s := s) ?_ _ _ _ | refine Rst.drew ?_ | refine Rst.alloc ?_ _ | refine Rst.other ?_ (Ne.symm rne) _)
      · repeat (with_reducible first | exact (H2.out.kept K3.out).g | refine gb_own ?_ _ _ | refine gb_drew ?_ | refine gb_alloc ?_ _ | refine gb_fresh ?_ (by first | exact Nat.le_refl _ | exact Nat.le_succ _) _)

end Go.Proofs.YtbgdeaeikijdgaaGreatDoor
