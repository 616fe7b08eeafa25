/-
  The fonts that all know.
-/
import Derived.Test.YtkgaddlclfjkmaaMetFont
import Derived.Deep.WholeRow
import Derived.Deep.Cut
import Derived.Deep.MidRow
import Derived.Laws.Rows
namespace Go.Proofs.Ytkgaddlclfjkmaa
open Go.RowKit
set_option linter.unusedSimpArgs false
set_option linter.unusedVariables false

def Mt.helvL : List Nat := [278, 278, 355, 556, 556, 889, 667, 191, 333, 333, 389, 584, 278, 333, 278, 278, 556, 556, 556, 556, 556, 556, 556, 556, 556, 556, 278, 278, 584, 584, 584, 556, 1015, 667, 667, 722, 722, 667, 611, 778, 722, 278, 500, 667, 556, 833, 722, 778, 667, 778, 722, 667, 611, 722, 667, 944, 667, 667, 611, 278, 278, 278, 469, 556, 333, 556, 556, 500, 556, 556, 278, 556, 556, 222, 222, 500, 222, 833, 556, 556, 556, 556, 333, 500, 278, 556, 500, 722, 500, 500, 500, 334, 260, 334, 584]
def Mt.timesL : List Nat := [250, 333, 408, 500, 500, 833, 778, 180, 333, 333, 500, 564, 250, 333, 250, 278, 500, 500, 500, 500, 500, 500, 500, 500, 500, 500, 278, 278, 564, 564, 564, 444, 921, 722, 667, 667, 722, 611, 556, 722, 722, 333, 389, 722, 611, 889, 722, 722, 556, 722, 667, 556, 611, 722, 722, 944, 722, 722, 611, 333, 278, 333, 469, 500, 333, 444, 500, 444, 500, 444, 333, 500, 500, 278, 278, 500, 278, 778, 500, 500, 500, 500, 333, 389, 278, 500, 500, 722, 500, 500, 444, 480, 200, 480, 541]
def Mt.numsV (l : List Nat) : List Value := l.map fun n => .int .i64 (n : Nat)

theorem Mt.arr_size : (Try.prog.info? 64).map (·.size) = some 95 := by kernel_rfl

theorem Mt.arr_zero : (Try.prog.info? 64).map (fun i => (i.zero, i.size)) = some (some (.agg (Array.replicate 95 (.int .i64 0))), 95) := by kernel_rfl
theorem setRow_at' {w : World} {c c' : Array Value} {t : TypeId} {g : Nat} (h : g = w.heap.size) : (w.alloc (.cells c t)).setRow g c' = w.alloc (.cells c' t) := by
  subst h; exact World.setRow_alloc_new w c c' t
/-- A whole array stored into a variable that was just made. -/
theorem wpList_store_new' (W : World) {ops : Array Oper} {rest : List Oper} {o : Oper} {a : Act} {Q : Exit → Act → World → Prop} (hgd : o.guard = none) (ty : TypeId) (x y : Operand) (ho : o.op = .store ty x y)
    (g : Nat) (cells : List Value) (c : Array Value) (t : TypeId) (hx : a.eval x = .pointer (some ⟨g, 0, none⟩)) (hy : a.eval y = .agg cells.toArray) (hg : g = W.heap.size)
    (hi : (Try.prog.info? ty).map (·.size) = some cells.length) (hold : c.size = cells.length) (h1 : ∀ u ∈ cells, u.oneCell' = true)
    (h : wpList Try.prog ops Q rest (a.put o.dst undef) (W.alloc (.cells cells.toArray t))) : wpList Try.prog ops Q (o :: rest) a (W.alloc (.cells c t)) := by
  refine wpList_store_row hgd ty x y ho g cells.toArray hx hy t c ?_ (by simpa using hi) (by simpa using hold) (all_oneCell_toArray h1) ?_
  · subst hg; exact heap_alloc_new W _
  · rw [setRow_at' hg]; exact h
theorem Mt.numsV_one (l : List Nat) : ∀ u ∈ Mt.numsV l, u.oneCell' = true := by
  intro u hu
  obtain ⟨n, -, rfl⟩ := List.mem_map.1 hu
  rfl

theorem wpList_built {ops : Array Oper} {rest : List Oper} {o : Oper} {a : Act} {w : World} {Q : Exit → Act → World → Prop} (hg : o.guard = none) (t : TypeId) (parts : Array (Nat × Operand)) (ho : o.op = .build t parts)
    (cells : Array Value) (hc : Try.prog.built t (parts.map fun (i, x) => (i, a.eval x)).toList = some cells) (h : wpList Try.prog ops Q rest (a.put o.dst (.agg cells)) w) : wpList Try.prog ops Q (o :: rest) a w :=
  wpList_build hg t parts ho (by rw [hc]; rfl) (by rw [hc]; exact h)

set_option maxRecDepth 100000 in
set_option maxHeartbeats 4000000 in
theorem helvetica_any (w : World) :
    Calls Try.prog 34 #[] w fun e w' => e = .returned (.agg (Mt.numsV Mt.helvL).toArray) ∧ Kept w w' := by
  have hz := zero_of_info (P := Try.prog) Mt.arr_zero
  have HB := Lib.hid (Blk.fresh w (Mt.numsV Mt.helvL).toArray 64)
  go_enter Try.func34, Try.ntmps34
  simp only [List.append_eq, List.cons_append, List.nil_append]
  go_upto_region 1 with fail
  refine wp_region_lit ?_
  refine wpList_built (by rfl) 64 _ (by rfl) (Mt.numsV Mt.helvL).toArray (by kernel_rfl) ?_
  refine wpList_store_new' w (by rfl) 64 _ _ (by rfl) w.heap.size (Mt.numsV Mt.helvL) _ 64 (by rfl) (by rfl) rfl Mt.arr_size (by rfl) (Mt.numsV_one _) ?_
  refine wpList_nil ?_
  rename_i kk
  refine kk _ _ ?_
  refine wp_ret ?_
  change bodyPost _ _ _ Exit.ret _ _
  refine bodyPost_ret (v := .agg (Mt.numsV Mt.helvL).toArray) ?_ rfl ⟨rfl, (Kept.refl w).alloc _ _⟩
  exact results_cell_row (by rfl) _ _ w.heap.size _ _ _ _ (by rfl) HB.out Try.underlying64 rfl (by rw [Mt.arr_size]; rfl)

set_option maxRecDepth 100000 in
set_option maxHeartbeats 4000000 in
theorem times_any (w : World) :
    Calls Try.prog 35 #[] w fun e w' => e = .returned (.agg (Mt.numsV Mt.timesL).toArray) ∧ Kept w w' := by
  have hz := zero_of_info (P := Try.prog) Mt.arr_zero
  have HB := Lib.hid (Blk.fresh w (Mt.numsV Mt.timesL).toArray 64)
  go_enter Try.func35, Try.ntmps35
  simp only [List.append_eq, List.cons_append, List.nil_append]
  go_upto_region 1 with fail
  refine wp_region_lit ?_
  refine wpList_built (by rfl) 64 _ (by rfl) (Mt.numsV Mt.timesL).toArray (by kernel_rfl) ?_
  refine wpList_store_new' w (by rfl) 64 _ _ (by rfl) w.heap.size (Mt.numsV Mt.timesL) _ 64 (by rfl) (by rfl) rfl Mt.arr_size (by rfl) (Mt.numsV_one _) ?_
  refine wpList_nil ?_
  rename_i kk
  refine kk _ _ ?_
  refine wp_ret ?_
  change bodyPost _ _ _ Exit.ret _ _
  refine bodyPost_ret (v := .agg (Mt.numsV Mt.timesL).toArray) ?_ rfl ⟨rfl, (Kept.refl w).alloc _ _⟩
  exact results_cell_row (by rfl) _ _ w.heap.size _ _ _ _ (by rfl) HB.out Try.underlying64 rfl (by rw [Mt.arr_size]; rfl)

/-- A font's cells in memory. -/
def Mt.fontV (t : Mt.Fo) (p : Option Addr) (c : Nat) : Value := .agg #[.int .i64 t.first, .slice p t.ws.length c, .int .i64 t.other]
def Mt.helv : Mt.Fo := ⟨32, Mt.helvL, 556⟩
def Mt.tims : Mt.Fo := ⟨32, Mt.timesL, 500⟩
def Mt.cour : Mt.Fo := ⟨32, [], 600⟩
def Mt.noF : Mt.Fo := ⟨0, [], 0⟩
/-- What Standard answers. -/
def Mt.stdT (s : List UInt8) : Mt.Fo := if s = [72, 101, 108, 118, 101, 116, 105, 99, 97] then Mt.helv else if s = [84, 105, 109, 101, 115, 45, 82, 111, 109, 97, 110] then Mt.tims else if s = [67, 111, 117, 114, 105, 101, 114] then Mt.cour else Mt.noF
def Mt.stdB (s : List UInt8) : Bool := s == [72, 101, 108, 118, 101, 116, 105, 99, 97] || s == [84, 105, 109, 101, 115, 45, 82, 111, 109, 97, 110] || s == [67, 111, 117, 114, 105, 101, 114]
theorem Mt.helv_sane : Mt.helv.Sane := by
  refine ⟨by decide, by decide, by decide, ?_⟩
  have : Mt.helvL.all (fun x => decide (x ≤ 5000)) = true := by kernel_rfl
  intro x hx
  exact of_decide_eq_true (List.all_eq_true.1 this x hx)
theorem Mt.tims_sane : Mt.tims.Sane := by
  refine ⟨by decide, by decide, by decide, ?_⟩
  have : Mt.timesL.all (fun x => decide (x ≤ 5000)) = true := by kernel_rfl
  intro x hx
  exact of_decide_eq_true (List.all_eq_true.1 this x hx)
theorem Mt.cour_sane : Mt.cour.Sane := ⟨by decide, by decide, by decide, fun x hx => by simp [Mt.cour] at hx⟩
theorem Mt.noF_sane : Mt.noF.Sane := ⟨by decide, by decide, by decide, fun x hx => by simp [Mt.noF] at hx⟩
theorem Mt.stdT_sane (s : List UInt8) : (Mt.stdT s).Sane := by
  unfold Mt.stdT
  split
  · exact Mt.helv_sane
  · split
    · exact Mt.tims_sane
    · split
      · exact Mt.cour_sane
      · exact Mt.noF_sane
theorem NuR.of_blk {w : World} {k : Nat} {l : List Nat} {t : TypeId} (h : Blk w k (Mt.numsV l).toArray t) {B : Nat} (hB : k < B) : NuR w B (some ⟨k, 0, none⟩) l := fun i hi => by
  refine ⟨k, 0, rfl, hB, ?_⟩
  rw [Nat.zero_add, h.cell i]
  simp [Mt.numsV, hi]
theorem NuR.nil (w : World) (B : Nat) (p : Option Addr) : NuR w B p [] := fun i hi => by simp at hi

/-- What Standard leaves. -/
def StdPost (w : World) (t : Mt.Fo) (ok : Bool) (e : Ending) (w' : World) : Prop := ∃ p c, e = .returned (.tuple #[Mt.fontV t p c, .bool ok]) ∧ NuR w' w'.heap.size p t.ws ∧ Kept w w'

set_option maxRecDepth 100000 in
theorem Standard_helv (w : World) :
    Calls Try.prog 21 #[.string ⟨#[72, 101, 108, 118, 101, 116, 105, 99, 97]⟩] w (StdPost w Mt.helv true) := by
  have C := Lib.hid (fun wx => helvetica_any wx)
  obtain ⟨N, hN⟩ : ∃ N, N = Mt.numsV Mt.helvL := ⟨_, rfl⟩
  have HL := Lib.hid (show N.length = 95 by rw [hN]; rfl)
  have HO := Lib.hid (show ∀ u ∈ N, u.oneCell' = true by rw [hN]; exact Mt.numsV_one _)
  rw [← hN] at C
  have HN := Lib.hid hN
  clear hN
  have hz := (zero_of_info (P := Try.prog) Mt.arr_zero).1
  obtain ⟨Z, hZ⟩ : ∃ Z : Array Value, Z = Array.replicate 95 (.int .i64 0) := ⟨_, rfl⟩
  have HZ := Lib.hid (show Z.size = 95 by rw [hZ]; simp)
  rw [← hZ] at hz
  clear hZ
  go_enter Try.func21, Try.ntmps21
  go_wp2_with fail
  (with_reducible refine (C.out _).mono ?_)
  rintro e w1 ⟨rfl, hk1⟩
  have B1 := Lib.hid (show Blk w1 w.heap.size #[.int .i64 0, .slice none 0 0, .int .i64 0] 28 from (Blk.fresh w _ _).kept hk1)
  have K1 := Lib.hid (show Kept w w1 from ((Kept.refl w).alloc _ _).trans hk1)
  clear hk1
  have e0 := B1.out.cell 0
  have e1 := B1.out.cell 1
  have e2 := B1.out.cell 2
  have ef := B1.out.free
  have el := B1.out.lt
  go_wp2_with (refine wpList_store_new' w1 (by rfl) 64 _ _ (by rfl) w1.heap.size N _ 64 (by rfl) (by rfl) rfl (by rw [HL.out]; exact Mt.arr_size) (by rw [HL.out, HZ.out]) HO.out ?_)
  refine bodyPost_ret (v := .tuple #[.agg #[.int .i64 32, .slice (some ⟨w1.heap.size, 0, none⟩) 95 95, .int .i64 556], .bool true]) ?_ rfl ⟨some ⟨w1.heap.size, 0, none⟩, 95, rfl, ?_, ?_⟩
  · simp [results, Try.results21, go_sem, e0, e1, e2, el]
  · refine NuR.of_blk (t := 64) ?_ (by simp)
    rw [show Mt.numsV Mt.helv.ws = N from HN.out.symm]
    exact Blk.fresh' _ _ (by simp)
  · repeat (with_reducible first | exact K1.out | refine Kept.alloc ?_ _ _ | refine Kept.set ?_ (Nat.le_refl _) _)

set_option maxRecDepth 100000 in
theorem Standard_times (w : World) :
    Calls Try.prog 21 #[.string ⟨#[84, 105, 109, 101, 115, 45, 82, 111, 109, 97, 110]⟩] w (StdPost w Mt.tims true) := by
  have C := Lib.hid (fun wx => times_any wx)
  obtain ⟨N, hN⟩ : ∃ N, N = Mt.numsV Mt.timesL := ⟨_, rfl⟩
  have HL := Lib.hid (show N.length = 95 by rw [hN]; rfl)
  have HO := Lib.hid (show ∀ u ∈ N, u.oneCell' = true by rw [hN]; exact Mt.numsV_one _)
  rw [← hN] at C
  have HN := Lib.hid hN
  clear hN
  have hz := (zero_of_info (P := Try.prog) Mt.arr_zero).1
  obtain ⟨Z, hZ⟩ : ∃ Z : Array Value, Z = Array.replicate 95 (.int .i64 0) := ⟨_, rfl⟩
  have HZ := Lib.hid (show Z.size = 95 by rw [hZ]; simp)
  rw [← hZ] at hz
  clear hZ
  go_enter Try.func21, Try.ntmps21
  go_wp2_with fail
  (with_reducible refine (C.out _).mono ?_)
  rintro e w1 ⟨rfl, hk1⟩
  have B1 := Lib.hid (show Blk w1 w.heap.size #[.int .i64 0, .slice none 0 0, .int .i64 0] 28 from (Blk.fresh w _ _).kept hk1)
  have K1 := Lib.hid (show Kept w w1 from ((Kept.refl w).alloc _ _).trans hk1)
  clear hk1
  have e0 := B1.out.cell 0
  have e1 := B1.out.cell 1
  have e2 := B1.out.cell 2
  have ef := B1.out.free
  have el := B1.out.lt
  go_wp2_with (refine wpList_store_new' w1 (by rfl) 64 _ _ (by rfl) w1.heap.size N _ 64 (by rfl) (by rfl) rfl (by rw [HL.out]; exact Mt.arr_size) (by rw [HL.out, HZ.out]) HO.out ?_)
  refine bodyPost_ret (v := .tuple #[.agg #[.int .i64 32, .slice (some ⟨w1.heap.size, 0, none⟩) 95 95, .int .i64 500], .bool true]) ?_ rfl ⟨some ⟨w1.heap.size, 0, none⟩, 95, rfl, ?_, ?_⟩
  · simp [results, Try.results21, go_sem, e0, e1, e2, el]
  · refine NuR.of_blk (t := 64) ?_ (by simp)
    rw [show Mt.numsV Mt.tims.ws = N from HN.out.symm]
    exact Blk.fresh' _ _ (by simp)
  · repeat (with_reducible first | exact K1.out | refine Kept.alloc ?_ _ _ | refine Kept.set ?_ (Nat.le_refl _) _)

set_option maxRecDepth 100000 in
theorem Standard_cour (w : World) :
    Calls Try.prog 21 #[.string ⟨#[67, 111, 117, 114, 105, 101, 114]⟩] w (StdPost w Mt.cour true) := by
  go_enter Try.func21, Try.ntmps21
  go_wp2_with fail
  refine bodyPost_ret (v := .tuple #[.agg #[.int .i64 32, .slice none 0 0, .int .i64 600], .bool true]) ?_ rfl ⟨none, 0, rfl, NuR.nil _ _ _, ?_⟩
  · simp [results, Try.results21, go_sem]
  · repeat (with_reducible first | exact Kept.refl _ | refine Kept.alloc ?_ _ _ | refine Kept.set ?_ (Nat.le_refl _) _)
set_option maxRecDepth 100000 in
theorem Standard_none (s : ByteArray) (w : World) (h1 : (s.toList == [72, 101, 108, 118, 101, 116, 105, 99, 97]) = false) (h2 : (s.toList == [84, 105, 109, 101, 115, 45, 82, 111, 109, 97, 110]) = false) (h3 : (s.toList == [67, 111, 117, 114, 105, 101, 114]) = false) :
    Calls Try.prog 21 #[.string s] w (StdPost w Mt.noF false) := by
  go_enter Try.func21, Try.ntmps21
  go_wp2_with fail
  refine bodyPost_ret (v := .tuple #[.agg #[.int .i64 0, .slice none 0 0, .int .i64 0], .bool false]) ?_ rfl ⟨none, 0, rfl, NuR.nil _ _ _, ?_⟩
  · simp [results, Try.results21, go_sem]
  · repeat (with_reducible first | exact Kept.refl _ | refine Kept.alloc ?_ _ _ | refine Kept.set ?_ (Nat.le_refl _) _)
theorem Mt.str_ne {s a : List UInt8} (h : s ≠ a) : ((⟨s.toArray⟩ : ByteArray).toList == a) = false := by
  rw [Lib.toList_data]
  exact beq_eq_false_iff_ne.2 h
/-- Standard, of any name. -/
theorem Standard_any (s : List UInt8) (w : World) :
    Calls Try.prog 21 #[.string ⟨s.toArray⟩] w (StdPost w (Mt.stdT s) (Mt.stdB s)) := by
  by_cases h1 : s = [72, 101, 108, 118, 101, 116, 105, 99, 97]
  · subst h1; exact Standard_helv w
  by_cases h2 : s = [84, 105, 109, 101, 115, 45, 82, 111, 109, 97, 110]
  · subst h2; exact Standard_times w
  by_cases h3 : s = [67, 111, 117, 114, 105, 101, 114]
  · subst h3; exact Standard_cour w
  have e1 : Mt.stdT s = Mt.noF := by unfold Mt.stdT; rw [if_neg h1, if_neg h2, if_neg h3]
  have e2 : Mt.stdB s = false := by
    unfold Mt.stdB
    rw [beq_eq_false_iff_ne.2 h1, beq_eq_false_iff_ne.2 h2, beq_eq_false_iff_ne.2 h3]; rfl
  rw [e1, e2]
  exact Standard_none _ w (Mt.str_ne h1) (Mt.str_ne h2) (Mt.str_ne h3)

end Go.Proofs.Ytkgaddlclfjkmaa
