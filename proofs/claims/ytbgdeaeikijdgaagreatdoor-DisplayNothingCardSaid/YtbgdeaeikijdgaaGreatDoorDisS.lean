/-
  One step of a pen: w, g, G, rg, q.
  One step of a pen: m, l, re.
  One step of a pen: f, S, B, s, n.
  One step of a pen: an operator that is not known.
-/
import Derived.Test.YtbgdeaeikijdgaaGreatDoorDisNums
import Derived.Test.YtbgdeaeikijdgaaGreatDoorDisP
import Derived.Deep.RegionHeld3
import Derived.Test.YtbgdeaeikijdgaaGreatDoorDisL
namespace Go.Proofs.YtbgdeaeikijdgaaGreatDoor
open Go.RowKit Cx Px
set_option linter.unusedSimpArgs false
set_option linter.unusedVariables false

/-- Where an operator's objects lie. -/
def OpL (w : World) (l : List Ob) (p : Option Addr) : Prop := ∀ i (hi : i < l.length), ∃ b off, p = some ⟨b, off, none⟩ ∧ b < w.heap.size ∧ w.cell? ⟨b, off + i * 6, none⟩ = some (.int .i64 l[i].k) ∧ w.cell? ⟨b, off + i * 6 + 2, none⟩ = some (.int .i64 l[i].f)
theorem OpL.kept {w w' : World} {l : List Ob} {p : Option Addr} (h : OpL w l p) (k : Kept w w') : OpL w' l p := fun i hi => by
  obtain ⟨b, off, hp, hb, c0, c2⟩ := h i hi
  exact ⟨b, off, hp, Nat.lt_of_lt_of_le hb (Below.size k), (k.cells.1 b _ hb).trans c0, (k.cells.1 b _ hb).trans c2⟩

set_option maxRecDepth 100000 in
set_option maxHeartbeats 16000000 in
theorem step_w (wB : World) (pb sb : Nat) (P : Pen) (l : List Ob) (p : Option Addr) (cp : Nat) (a : Int) (w : World) (h : PenR wB pb sb w P) (ho : OpL w l p) (hN : HasN l [a]) :
    Calls Tryz.prog 28 #[.pointer (some ⟨pb, 0, none⟩), .agg #[.string ⟨#[119]⟩, .slice p l.length cp]] w fun e w' => e = .returned (.int .i64 0) ∧ PenR wB pb sb w' (P.setSt { P.st with w := a }) := by
  have OF := Lib.hid (fun w => ofN_w w)
  have NU := Lib.hid (fun wx (k : Kept w wx) => show Calls Tryz.prog 35 #[.slice p l.length cp, .int .i64 1] wx (fun e w' => e = .returned (.tuple #[.agg #[.int .i64 a, .int .i64 0, .int .i64 0, .int .i64 0, .int .i64 0, .int .i64 0], .int .i64 0]) ∧ Kept wx w') from numbers_any l p cp [a] wx (ho.kept k) hN (by simp))
  have CA := Lib.hid (fun w' (k : PenR wB pb sb w' P) => show Calls Tryz.prog 37 #[.pointer (some ⟨pb, 0, none⟩), .string ⟨#[119]⟩, .agg #[.int .i64 a, .int .i64 0, .int .i64 0, .int .i64 0, .int .i64 0, .int .i64 0]] w' (fun e w'' => e = .returned (.int .i64 0) ∧ PenR wB pb sb w'' (P.setSt { P.st with w := a })) from change_w wB pb sb P a 0 0 0 0 0 w' k)
  obtain ⟨nm, hn⟩ : ∃ nm : ByteArray, nm = ⟨#[119]⟩ := ⟨_, rfl⟩
  rw [← hn] at OF CA ⊢
  have z0 : (nm.toList == [113]) = false := by rw [hn]; kernel_rfl
  have z1 : (nm.toList == [81]) = false := by rw [hn]; kernel_rfl
  have z2 : (nm.toList == [99, 109]) = false := by rw [hn]; kernel_rfl
  have z3 : (nm.toList == [119]) = true := by rw [hn]; kernel_rfl
  have HR := Lib.hid h
  have K1 := Lib.hid ((Kept.refl w).alloc #[.string nm, .slice p l.length cp] 53)
  have B1 := Lib.hid (Blk.fresh w #[.string nm, .slice p l.length cp] 53)
  have K2 := Lib.hid (K1.out.alloc #[.int .i64 0, .int .i64 0, .int .i64 0, .int .i64 0, .int .i64 0, .int .i64 0] 27)
  have B2 := Lib.hid (B1.out.alloc (.cells #[.int .i64 0, .int .i64 0, .int .i64 0, .int .i64 0, .int .i64 0, .int .i64 0] 27 (0, 0)))
  have A2 := Lib.hid (Blk.fresh' (w := w.alloc (.cells #[.string nm, .slice p l.length cp] 53 (0, 0))) (b := w.heap.size + 1) #[.int .i64 0, .int .i64 0, .int .i64 0, .int .i64 0, .int .i64 0, .int .i64 0] 27 (by simp))
  clear hn h ho hN
  go_enter Tryz.func28, Tryz.ntmps28
  go_wp2_with fail
  go_region_held3 (fun w' => w'.cell? ⟨w.heap.size, 0, none⟩ = some (.string nm) ∧ w'.cell? ⟨w.heap.size, 1, none⟩ = some (.slice p l.length cp)) (first | go_keep | exact ⟨c0, c1⟩)
    (first
      | (go_at_call 36; (with_reducible refine (OF.out _).mono ?_); rintro e wq ⟨rfl, rfl⟩)
      | (go_at_call 35; (first | ((with_reducible refine (NU.out _ K1.out).mono ?_); rintro e wn ⟨rfl, kn⟩; have KN := Lib.hid (K1.out.trans kn); obtain ⟨c0, c1⟩ := (B1.out.kept kn).cells2; have cz := (B1.out.kept kn).lt) | ((with_reducible refine (NU.out _ K1.out.drew).mono ?_); rintro e wn ⟨rfl, kn⟩; have KN := Lib.hid (K1.out.drew.trans kn); obtain ⟨c0, c1⟩ := (B1.out.drew.kept kn).cells2; have cz := (B1.out.drew.kept kn).lt) | ((with_reducible refine (NU.out _ K2.out).mono ?_); rintro e wn ⟨rfl, kn⟩; have KN := Lib.hid (K2.out.trans kn); obtain ⟨c0, c1⟩ := (B2.out.kept kn).cells2; have cz := (B2.out.kept kn).lt; obtain ⟨y0, y1, y2, y3, y4, y5⟩ := (A2.out.kept kn).cells6; have yf := (A2.out.kept kn).free; have yz := (A2.out.kept kn).lt) | ((with_reducible refine (NU.out _ K2.out.drew).mono ?_); rintro e wn ⟨rfl, kn⟩; have KN := Lib.hid (K2.out.drew.trans kn); obtain ⟨c0, c1⟩ := (B2.out.drew.kept kn).cells2; have cz := (B2.out.drew.kept kn).lt; obtain ⟨y0, y1, y2, y3, y4, y5⟩ := (A2.out.drew.kept kn).cells6; have yf := (A2.out.drew.kept kn).free; have yz := (A2.out.drew.kept kn).lt))))
  all_goals
    go_wp2_with fail
    (with_reducible refine (CA.out _ (HR.out.kept (by repeat (with_reducible first | exact KN.out | refine Kept.drew ?_ | refine Kept.alloc ?_ _ _ | refine Kept.set ?_ (by first | exact Nat.le_refl _ | exact Nat.le_succ _) _)))).mono ?_)
    rintro e w3 ⟨rfl, h3⟩
    have R3 := Lib.hid h3
    clear h3
    go_wp2_with fail
    go_ret
    exact ⟨rfl, R3.out⟩

set_option maxRecDepth 100000 in
set_option maxHeartbeats 16000000 in
theorem step_g (wB : World) (pb sb : Nat) (P : Pen) (l : List Ob) (p : Option Addr) (cp : Nat) (a : Int) (w : World) (h : PenR wB pb sb w P) (ho : OpL w l p) (hN : HasN l [a]) :
    Calls Tryz.prog 28 #[.pointer (some ⟨pb, 0, none⟩), .agg #[.string ⟨#[103]⟩, .slice p l.length cp]] w fun e w' => e = .returned (.int .i64 0) ∧ PenR wB pb sb w' (P.setSt { P.st with c := ⟨a, a, a⟩ }) := by
  have OF := Lib.hid (fun w => ofN_g w)
  have NU := Lib.hid (fun wx (k : Kept w wx) => show Calls Tryz.prog 35 #[.slice p l.length cp, .int .i64 1] wx (fun e w' => e = .returned (.tuple #[.agg #[.int .i64 a, .int .i64 0, .int .i64 0, .int .i64 0, .int .i64 0, .int .i64 0], .int .i64 0]) ∧ Kept wx w') from numbers_any l p cp [a] wx (ho.kept k) hN (by simp))
  have CA := Lib.hid (fun w' (k : PenR wB pb sb w' P) => show Calls Tryz.prog 37 #[.pointer (some ⟨pb, 0, none⟩), .string ⟨#[103]⟩, .agg #[.int .i64 a, .int .i64 0, .int .i64 0, .int .i64 0, .int .i64 0, .int .i64 0]] w' (fun e w'' => e = .returned (.int .i64 0) ∧ PenR wB pb sb w'' (P.setSt { P.st with c := ⟨a, a, a⟩ })) from change_g wB pb sb P a 0 0 0 0 0 w' k)
  obtain ⟨nm, hn⟩ : ∃ nm : ByteArray, nm = ⟨#[103]⟩ := ⟨_, rfl⟩
  rw [← hn] at OF CA ⊢
  have z0 : (nm.toList == [113]) = false := by rw [hn]; kernel_rfl
  have z1 : (nm.toList == [81]) = false := by rw [hn]; kernel_rfl
  have z2 : (nm.toList == [99, 109]) = false := by rw [hn]; kernel_rfl
  have z3 : (nm.toList == [119]) = false := by rw [hn]; kernel_rfl
  have z4 : (nm.toList == [103]) = true := by rw [hn]; kernel_rfl
  have HR := Lib.hid h
  have K1 := Lib.hid ((Kept.refl w).alloc #[.string nm, .slice p l.length cp] 53)
  have B1 := Lib.hid (Blk.fresh w #[.string nm, .slice p l.length cp] 53)
  have K2 := Lib.hid (K1.out.alloc #[.int .i64 0, .int .i64 0, .int .i64 0, .int .i64 0, .int .i64 0, .int .i64 0] 27)
  have B2 := Lib.hid (B1.out.alloc (.cells #[.int .i64 0, .int .i64 0, .int .i64 0, .int .i64 0, .int .i64 0, .int .i64 0] 27 (0, 0)))
  have A2 := Lib.hid (Blk.fresh' (w := w.alloc (.cells #[.string nm, .slice p l.length cp] 53 (0, 0))) (b := w.heap.size + 1) #[.int .i64 0, .int .i64 0, .int .i64 0, .int .i64 0, .int .i64 0, .int .i64 0] 27 (by simp))
  clear hn h ho hN
  go_enter Tryz.func28, Tryz.ntmps28
  go_wp2_with fail
  go_region_held3 (fun w' => w'.cell? ⟨w.heap.size, 0, none⟩ = some (.string nm) ∧ w'.cell? ⟨w.heap.size, 1, none⟩ = some (.slice p l.length cp)) (first | go_keep | exact ⟨c0, c1⟩)
    (first
      | (go_at_call 36; (with_reducible refine (OF.out _).mono ?_); rintro e wq ⟨rfl, rfl⟩)
      | (go_at_call 35; (first | ((with_reducible refine (NU.out _ K1.out).mono ?_); rintro e wn ⟨rfl, kn⟩; have KN := Lib.hid (K1.out.trans kn); obtain ⟨c0, c1⟩ := (B1.out.kept kn).cells2; have cz := (B1.out.kept kn).lt) | ((with_reducible refine (NU.out _ K1.out.drew).mono ?_); rintro e wn ⟨rfl, kn⟩; have KN := Lib.hid (K1.out.drew.trans kn); obtain ⟨c0, c1⟩ := (B1.out.drew.kept kn).cells2; have cz := (B1.out.drew.kept kn).lt) | ((with_reducible refine (NU.out _ K2.out).mono ?_); rintro e wn ⟨rfl, kn⟩; have KN := Lib.hid (K2.out.trans kn); obtain ⟨c0, c1⟩ := (B2.out.kept kn).cells2; have cz := (B2.out.kept kn).lt; obtain ⟨y0, y1, y2, y3, y4, y5⟩ := (A2.out.kept kn).cells6; have yf := (A2.out.kept kn).free; have yz := (A2.out.kept kn).lt) | ((with_reducible refine (NU.out _ K2.out.drew).mono ?_); rintro e wn ⟨rfl, kn⟩; have KN := Lib.hid (K2.out.drew.trans kn); obtain ⟨c0, c1⟩ := (B2.out.drew.kept kn).cells2; have cz := (B2.out.drew.kept kn).lt; obtain ⟨y0, y1, y2, y3, y4, y5⟩ := (A2.out.drew.kept kn).cells6; have yf := (A2.out.drew.kept kn).free; have yz := (A2.out.drew.kept kn).lt))))
  all_goals
    go_wp2_with fail
    (with_reducible refine (CA.out _ (HR.out.kept (by repeat (with_reducible first | exact KN.out | refine Kept.drew ?_ | refine Kept.alloc ?_ _ _ | refine Kept.set ?_ (by first | exact Nat.le_refl _ | exact Nat.le_succ _) _)))).mono ?_)
    rintro e w3 ⟨rfl, h3⟩
    have R3 := Lib.hid h3
    clear h3
    go_wp2_with fail
    go_ret
    exact ⟨rfl, R3.out⟩

set_option maxRecDepth 100000 in
set_option maxHeartbeats 16000000 in
theorem step_bigG (wB : World) (pb sb : Nat) (P : Pen) (l : List Ob) (p : Option Addr) (cp : Nat) (a : Int) (w : World) (h : PenR wB pb sb w P) (ho : OpL w l p) (hN : HasN l [a]) :
    Calls Tryz.prog 28 #[.pointer (some ⟨pb, 0, none⟩), .agg #[.string ⟨#[71]⟩, .slice p l.length cp]] w fun e w' => e = .returned (.int .i64 0) ∧ PenR wB pb sb w' (P.setSt { P.st with d := ⟨a, a, a⟩ }) := by
  have OF := Lib.hid (fun w => ofN_bigG w)
  have NU := Lib.hid (fun wx (k : Kept w wx) => show Calls Tryz.prog 35 #[.slice p l.length cp, .int .i64 1] wx (fun e w' => e = .returned (.tuple #[.agg #[.int .i64 a, .int .i64 0, .int .i64 0, .int .i64 0, .int .i64 0, .int .i64 0], .int .i64 0]) ∧ Kept wx w') from numbers_any l p cp [a] wx (ho.kept k) hN (by simp))
  have CA := Lib.hid (fun w' (k : PenR wB pb sb w' P) => show Calls Tryz.prog 37 #[.pointer (some ⟨pb, 0, none⟩), .string ⟨#[71]⟩, .agg #[.int .i64 a, .int .i64 0, .int .i64 0, .int .i64 0, .int .i64 0, .int .i64 0]] w' (fun e w'' => e = .returned (.int .i64 0) ∧ PenR wB pb sb w'' (P.setSt { P.st with d := ⟨a, a, a⟩ })) from change_bigG wB pb sb P a 0 0 0 0 0 w' k)
  obtain ⟨nm, hn⟩ : ∃ nm : ByteArray, nm = ⟨#[71]⟩ := ⟨_, rfl⟩
  rw [← hn] at OF CA ⊢
  have z0 : (nm.toList == [113]) = false := by rw [hn]; kernel_rfl
  have z1 : (nm.toList == [81]) = false := by rw [hn]; kernel_rfl
  have z2 : (nm.toList == [99, 109]) = false := by rw [hn]; kernel_rfl
  have z3 : (nm.toList == [119]) = false := by rw [hn]; kernel_rfl
  have z4 : (nm.toList == [103]) = false := by rw [hn]; kernel_rfl
  have z5 : (nm.toList == [71]) = true := by rw [hn]; kernel_rfl
  have HR := Lib.hid h
  have K1 := Lib.hid ((Kept.refl w).alloc #[.string nm, .slice p l.length cp] 53)
  have B1 := Lib.hid (Blk.fresh w #[.string nm, .slice p l.length cp] 53)
  have K2 := Lib.hid (K1.out.alloc #[.int .i64 0, .int .i64 0, .int .i64 0, .int .i64 0, .int .i64 0, .int .i64 0] 27)
  have B2 := Lib.hid (B1.out.alloc (.cells #[.int .i64 0, .int .i64 0, .int .i64 0, .int .i64 0, .int .i64 0, .int .i64 0] 27 (0, 0)))
  have A2 := Lib.hid (Blk.fresh' (w := w.alloc (.cells #[.string nm, .slice p l.length cp] 53 (0, 0))) (b := w.heap.size + 1) #[.int .i64 0, .int .i64 0, .int .i64 0, .int .i64 0, .int .i64 0, .int .i64 0] 27 (by simp))
  clear hn h ho hN
  go_enter Tryz.func28, Tryz.ntmps28
  go_wp2_with fail
  go_region_held3 (fun w' => w'.cell? ⟨w.heap.size, 0, none⟩ = some (.string nm) ∧ w'.cell? ⟨w.heap.size, 1, none⟩ = some (.slice p l.length cp)) (first | go_keep | exact ⟨c0, c1⟩)
    (first
      | (go_at_call 36; (with_reducible refine (OF.out _).mono ?_); rintro e wq ⟨rfl, rfl⟩)
      | (go_at_call 35; (first | ((with_reducible refine (NU.out _ K1.out).mono ?_); rintro e wn ⟨rfl, kn⟩; have KN := Lib.hid (K1.out.trans kn); obtain ⟨c0, c1⟩ := (B1.out.kept kn).cells2; have cz := (B1.out.kept kn).lt) | ((with_reducible refine (NU.out _ K1.out.drew).mono ?_); rintro e wn ⟨rfl, kn⟩; have KN := Lib.hid (K1.out.drew.trans kn); obtain ⟨c0, c1⟩ := (B1.out.drew.kept kn).cells2; have cz := (B1.out.drew.kept kn).lt) | ((with_reducible refine (NU.out _ K2.out).mono ?_); rintro e wn ⟨rfl, kn⟩; have KN := Lib.hid (K2.out.trans kn); obtain ⟨c0, c1⟩ := (B2.out.kept kn).cells2; have cz := (B2.out.kept kn).lt; obtain ⟨y0, y1, y2, y3, y4, y5⟩ := (A2.out.kept kn).cells6; have yf := (A2.out.kept kn).free; have yz := (A2.out.kept kn).lt) | ((with_reducible refine (NU.out _ K2.out.drew).mono ?_); rintro e wn ⟨rfl, kn⟩; have KN := Lib.hid (K2.out.drew.trans kn); obtain ⟨c0, c1⟩ := (B2.out.drew.kept kn).cells2; have cz := (B2.out.drew.kept kn).lt; obtain ⟨y0, y1, y2, y3, y4, y5⟩ := (A2.out.drew.kept kn).cells6; have yf := (A2.out.drew.kept kn).free; have yz := (A2.out.drew.kept kn).lt))))
  all_goals
    go_wp2_with fail
    (with_reducible refine (CA.out _ (HR.out.kept (by repeat (with_reducible first | exact KN.out | refine Kept.drew ?_ | refine Kept.alloc ?_ _ _ | refine Kept.set ?_ (by first | exact Nat.le_refl _ | exact Nat.le_succ _) _)))).mono ?_)
    rintro e w3 ⟨rfl, h3⟩
    have R3 := Lib.hid h3
    clear h3
    go_wp2_with fail
    go_ret
    exact ⟨rfl, R3.out⟩

set_option maxRecDepth 100000 in
set_option maxHeartbeats 16000000 in
theorem step_rg (wB : World) (pb sb : Nat) (P : Pen) (l : List Ob) (p : Option Addr) (cp : Nat) (a b c : Int) (w : World) (h : PenR wB pb sb w P) (ho : OpL w l p) (hN : HasN l [a, b, c]) :
    Calls Tryz.prog 28 #[.pointer (some ⟨pb, 0, none⟩), .agg #[.string ⟨#[114, 103]⟩, .slice p l.length cp]] w fun e w' => e = .returned (.int .i64 0) ∧ PenR wB pb sb w' (P.setSt { P.st with c := ⟨a, b, c⟩ }) := by
  have OF := Lib.hid (fun w => ofN_rg w)
  have NU := Lib.hid (fun wx (k : Kept w wx) => show Calls Tryz.prog 35 #[.slice p l.length cp, .int .i64 3] wx (fun e w' => e = .returned (.tuple #[.agg #[.int .i64 a, .int .i64 b, .int .i64 c, .int .i64 0, .int .i64 0, .int .i64 0], .int .i64 0]) ∧ Kept wx w') from numbers_any l p cp [a, b, c] wx (ho.kept k) hN (by simp))
  have CA := Lib.hid (fun w' (k : PenR wB pb sb w' P) => show Calls Tryz.prog 37 #[.pointer (some ⟨pb, 0, none⟩), .string ⟨#[114, 103]⟩, .agg #[.int .i64 a, .int .i64 b, .int .i64 c, .int .i64 0, .int .i64 0, .int .i64 0]] w' (fun e w'' => e = .returned (.int .i64 0) ∧ PenR wB pb sb w'' (P.setSt { P.st with c := ⟨a, b, c⟩ })) from change_rg wB pb sb P a b c 0 0 0 w' k)
  obtain ⟨nm, hn⟩ : ∃ nm : ByteArray, nm = ⟨#[114, 103]⟩ := ⟨_, rfl⟩
  rw [← hn] at OF CA ⊢
  have z0 : (nm.toList == [113]) = false := by rw [hn]; kernel_rfl
  have z1 : (nm.toList == [81]) = false := by rw [hn]; kernel_rfl
  have z2 : (nm.toList == [99, 109]) = false := by rw [hn]; kernel_rfl
  have z3 : (nm.toList == [119]) = false := by rw [hn]; kernel_rfl
  have z4 : (nm.toList == [103]) = false := by rw [hn]; kernel_rfl
  have z5 : (nm.toList == [71]) = false := by rw [hn]; kernel_rfl
  have z6 : (nm.toList == [114, 103]) = true := by rw [hn]; kernel_rfl
  have HR := Lib.hid h
  have K1 := Lib.hid ((Kept.refl w).alloc #[.string nm, .slice p l.length cp] 53)
  have B1 := Lib.hid (Blk.fresh w #[.string nm, .slice p l.length cp] 53)
  have K2 := Lib.hid (K1.out.alloc #[.int .i64 0, .int .i64 0, .int .i64 0, .int .i64 0, .int .i64 0, .int .i64 0] 27)
  have B2 := Lib.hid (B1.out.alloc (.cells #[.int .i64 0, .int .i64 0, .int .i64 0, .int .i64 0, .int .i64 0, .int .i64 0] 27 (0, 0)))
  have A2 := Lib.hid (Blk.fresh' (w := w.alloc (.cells #[.string nm, .slice p l.length cp] 53 (0, 0))) (b := w.heap.size + 1) #[.int .i64 0, .int .i64 0, .int .i64 0, .int .i64 0, .int .i64 0, .int .i64 0] 27 (by simp))
  clear hn h ho hN
  go_enter Tryz.func28, Tryz.ntmps28
  go_wp2_with fail
  go_region_held3 (fun w' => w'.cell? ⟨w.heap.size, 0, none⟩ = some (.string nm) ∧ w'.cell? ⟨w.heap.size, 1, none⟩ = some (.slice p l.length cp)) (first | go_keep | exact ⟨c0, c1⟩)
    (first
      | (go_at_call 36; (with_reducible refine (OF.out _).mono ?_); rintro e wq ⟨rfl, rfl⟩)
      | (go_at_call 35; (first | ((with_reducible refine (NU.out _ K1.out).mono ?_); rintro e wn ⟨rfl, kn⟩; have KN := Lib.hid (K1.out.trans kn); obtain ⟨c0, c1⟩ := (B1.out.kept kn).cells2; have cz := (B1.out.kept kn).lt) | ((with_reducible refine (NU.out _ K1.out.drew).mono ?_); rintro e wn ⟨rfl, kn⟩; have KN := Lib.hid (K1.out.drew.trans kn); obtain ⟨c0, c1⟩ := (B1.out.drew.kept kn).cells2; have cz := (B1.out.drew.kept kn).lt) | ((with_reducible refine (NU.out _ K2.out).mono ?_); rintro e wn ⟨rfl, kn⟩; have KN := Lib.hid (K2.out.trans kn); obtain ⟨c0, c1⟩ := (B2.out.kept kn).cells2; have cz := (B2.out.kept kn).lt; obtain ⟨y0, y1, y2, y3, y4, y5⟩ := (A2.out.kept kn).cells6; have yf := (A2.out.kept kn).free; have yz := (A2.out.kept kn).lt) | ((with_reducible refine (NU.out _ K2.out.drew).mono ?_); rintro e wn ⟨rfl, kn⟩; have KN := Lib.hid (K2.out.drew.trans kn); obtain ⟨c0, c1⟩ := (B2.out.drew.kept kn).cells2; have cz := (B2.out.drew.kept kn).lt; obtain ⟨y0, y1, y2, y3, y4, y5⟩ := (A2.out.drew.kept kn).cells6; have yf := (A2.out.drew.kept kn).free; have yz := (A2.out.drew.kept kn).lt))))
  all_goals
    go_wp2_with fail
    (with_reducible refine (CA.out _ (HR.out.kept (by repeat (with_reducible first | exact KN.out | refine Kept.drew ?_ | refine Kept.alloc ?_ _ _ | refine Kept.set ?_ (by first | exact Nat.le_refl _ | exact Nat.le_succ _) _)))).mono ?_)
    rintro e w3 ⟨rfl, h3⟩
    have R3 := Lib.hid h3
    clear h3
    go_wp2_with fail
    go_ret
    exact ⟨rfl, R3.out⟩

set_option maxRecDepth 100000 in
set_option maxHeartbeats 16000000 in
theorem step_q (wB : World) (pb sb : Nat) (P : Pen) (l : List Ob) (p : Option Addr) (cp : Nat) (w : World) (h : PenR wB pb sb w P) (ho : OpL w l p) (hN : HasN l []) (hb : P.kept.length < 64) :
    Calls Tryz.prog 28 #[.pointer (some ⟨pb, 0, none⟩), .agg #[.string ⟨#[113]⟩, .slice p l.length cp]] w fun e w' => e = .returned (.int .i64 0) ∧ PenR wB pb sb w' { P with kept := P.kept ++ [P.st] } := by
  have OF := Lib.hid (fun w => ofN_q w)
  have NU := Lib.hid (fun wx (k : Kept w wx) => show Calls Tryz.prog 35 #[.slice p l.length cp, .int .i64 0] wx (fun e w' => e = .returned (.tuple #[.agg #[.int .i64 0, .int .i64 0, .int .i64 0, .int .i64 0, .int .i64 0, .int .i64 0], .int .i64 0]) ∧ Kept wx w') from numbers_any l p cp [] wx (ho.kept k) hN (by simp))
  have CA := Lib.hid (fun w' (k : PenR wB pb sb w' P) => show Calls Tryz.prog 37 #[.pointer (some ⟨pb, 0, none⟩), .string ⟨#[113]⟩, .agg #[.int .i64 0, .int .i64 0, .int .i64 0, .int .i64 0, .int .i64 0, .int .i64 0]] w' (fun e w'' => e = .returned (.int .i64 0) ∧ PenR wB pb sb w'' { P with kept := P.kept ++ [P.st] }) from change_q wB pb sb P 0 0 0 0 0 0 w' k hb)
  obtain ⟨nm, hn⟩ : ∃ nm : ByteArray, nm = ⟨#[113]⟩ := ⟨_, rfl⟩
  rw [← hn] at OF CA ⊢
  have z0 : (nm.toList == [113]) = true := by rw [hn]; kernel_rfl
  have HR := Lib.hid h
  have K1 := Lib.hid ((Kept.refl w).alloc #[.string nm, .slice p l.length cp] 53)
  have B1 := Lib.hid (Blk.fresh w #[.string nm, .slice p l.length cp] 53)
  have K2 := Lib.hid (K1.out.alloc #[.int .i64 0, .int .i64 0, .int .i64 0, .int .i64 0, .int .i64 0, .int .i64 0] 27)
  have B2 := Lib.hid (B1.out.alloc (.cells #[.int .i64 0, .int .i64 0, .int .i64 0, .int .i64 0, .int .i64 0, .int .i64 0] 27 (0, 0)))
  have A2 := Lib.hid (Blk.fresh' (w := w.alloc (.cells #[.string nm, .slice p l.length cp] 53 (0, 0))) (b := w.heap.size + 1) #[.int .i64 0, .int .i64 0, .int .i64 0, .int .i64 0, .int .i64 0, .int .i64 0] 27 (by simp))
  clear hn h ho hN
  go_enter Tryz.func28, Tryz.ntmps28
  go_wp2_with fail
  go_region_held3 (fun w' => w'.cell? ⟨w.heap.size, 0, none⟩ = some (.string nm) ∧ w'.cell? ⟨w.heap.size, 1, none⟩ = some (.slice p l.length cp)) (first | go_keep | exact ⟨c0, c1⟩)
    (first
      | (go_at_call 36; (with_reducible refine (OF.out _).mono ?_); rintro e wq ⟨rfl, rfl⟩)
      | (go_at_call 35; (first | ((with_reducible refine (NU.out _ K1.out).mono ?_); rintro e wn ⟨rfl, kn⟩; have KN := Lib.hid (K1.out.trans kn); obtain ⟨c0, c1⟩ := (B1.out.kept kn).cells2; have cz := (B1.out.kept kn).lt) | ((with_reducible refine (NU.out _ K1.out.drew).mono ?_); rintro e wn ⟨rfl, kn⟩; have KN := Lib.hid (K1.out.drew.trans kn); obtain ⟨c0, c1⟩ := (B1.out.drew.kept kn).cells2; have cz := (B1.out.drew.kept kn).lt) | ((with_reducible refine (NU.out _ K2.out).mono ?_); rintro e wn ⟨rfl, kn⟩; have KN := Lib.hid (K2.out.trans kn); obtain ⟨c0, c1⟩ := (B2.out.kept kn).cells2; have cz := (B2.out.kept kn).lt; obtain ⟨y0, y1, y2, y3, y4, y5⟩ := (A2.out.kept kn).cells6; have yf := (A2.out.kept kn).free; have yz := (A2.out.kept kn).lt) | ((with_reducible refine (NU.out _ K2.out.drew).mono ?_); rintro e wn ⟨rfl, kn⟩; have KN := Lib.hid (K2.out.drew.trans kn); obtain ⟨c0, c1⟩ := (B2.out.drew.kept kn).cells2; have cz := (B2.out.drew.kept kn).lt; obtain ⟨y0, y1, y2, y3, y4, y5⟩ := (A2.out.drew.kept kn).cells6; have yf := (A2.out.drew.kept kn).free; have yz := (A2.out.drew.kept kn).lt))))
  all_goals
    go_wp2_with fail
    (with_reducible refine (CA.out _ (HR.out.kept (by repeat (with_reducible first | exact KN.out | refine Kept.drew ?_ | refine Kept.alloc ?_ _ _ | refine Kept.set ?_ (by first | exact Nat.le_refl _ | exact Nat.le_succ _) _)))).mono ?_)
    rintro e w3 ⟨rfl, h3⟩
    have R3 := Lib.hid h3
    clear h3
    go_wp2_with fail
    go_ret
    exact ⟨rfl, R3.out⟩

end Go.Proofs.YtbgdeaeikijdgaaGreatDoor

namespace Go.Proofs.YtbgdeaeikijdgaaGreatDoor
open Go.RowKit Cx Px
set_option linter.unusedSimpArgs false
set_option linter.unusedVariables false

set_option maxRecDepth 100000 in
set_option maxHeartbeats 16000000 in
theorem step_m (wB : World) (pb sb : Nat) (P : Pen) (l : List Ob) (p : Option Addr) (cp : Nat) (a b : Int) (w : World) (h : PenR wB pb sb w P) (ho : OpL w l p) (hN : HasN l [a, b]) (he : P.st.m.appE a b = 0) (hb : P.path.length ≤ 549755813888) :
    Calls Tryz.prog 28 #[.pointer (some ⟨pb, 0, none⟩), .agg #[.string ⟨#[109]⟩, .slice p l.length cp]] w fun e w' => e = .returned (.int .i64 0) ∧ PenR wB pb sb w' (P.point mOp a b) := by
  have OF := Lib.hid (fun w => ofN_m w)
  have NU := Lib.hid (fun wx (k : Kept w wx) => show Calls Tryz.prog 35 #[.slice p l.length cp, .int .i64 2] wx (fun e w' => e = .returned (.tuple #[.agg #[.int .i64 a, .int .i64 b, .int .i64 0, .int .i64 0, .int .i64 0, .int .i64 0], .int .i64 0]) ∧ Kept wx w') from numbers_any l p cp [a, b] wx (ho.kept k) hN (by simp))
  have CA := Lib.hid (fun w' (k : PenR wB pb sb w' P) => show Calls Tryz.prog 38 #[.pointer (some ⟨pb, 0, none⟩), .string ⟨#[109]⟩, .agg #[.int .i64 a, .int .i64 b, .int .i64 0, .int .i64 0, .int .i64 0, .int .i64 0]] w' (fun e w'' => e = .returned (.int .i64 0) ∧ PenR wB pb sb w'' (P.point mOp a b)) from trace_m wB pb sb P a b 0 0 0 0 w' k he hb)
  obtain ⟨nm, hn⟩ : ∃ nm : ByteArray, nm = ⟨#[109]⟩ := ⟨_, rfl⟩
  rw [← hn] at OF CA ⊢
  have z0 : (nm.toList == [113]) = false := by rw [hn]; kernel_rfl
  have z1 : (nm.toList == [81]) = false := by rw [hn]; kernel_rfl
  have z2 : (nm.toList == [99, 109]) = false := by rw [hn]; kernel_rfl
  have z3 : (nm.toList == [119]) = false := by rw [hn]; kernel_rfl
  have z4 : (nm.toList == [103]) = false := by rw [hn]; kernel_rfl
  have z5 : (nm.toList == [71]) = false := by rw [hn]; kernel_rfl
  have z6 : (nm.toList == [114, 103]) = false := by rw [hn]; kernel_rfl
  have z7 : (nm.toList == [82, 71]) = false := by rw [hn]; kernel_rfl
  have z8 : (nm.toList == [109]) = true := by rw [hn]; kernel_rfl
  have HR := Lib.hid h
  have K1 := Lib.hid ((Kept.refl w).alloc #[.string nm, .slice p l.length cp] 53)
  have B1 := Lib.hid (Blk.fresh w #[.string nm, .slice p l.length cp] 53)
  have K2 := Lib.hid (K1.out.alloc #[.int .i64 0, .int .i64 0, .int .i64 0, .int .i64 0, .int .i64 0, .int .i64 0] 27)
  have B2 := Lib.hid (B1.out.alloc (.cells #[.int .i64 0, .int .i64 0, .int .i64 0, .int .i64 0, .int .i64 0, .int .i64 0] 27 (0, 0)))
  have A2 := Lib.hid (Blk.fresh' (w := w.alloc (.cells #[.string nm, .slice p l.length cp] 53 (0, 0))) (b := w.heap.size + 1) #[.int .i64 0, .int .i64 0, .int .i64 0, .int .i64 0, .int .i64 0, .int .i64 0] 27 (by simp))
  clear hn h ho hN
  go_enter Tryz.func28, Tryz.ntmps28
  go_wp2_with fail
  go_region_held3 (fun w' => w'.cell? ⟨w.heap.size, 0, none⟩ = some (.string nm) ∧ w'.cell? ⟨w.heap.size, 1, none⟩ = some (.slice p l.length cp)) (first | go_keep | exact ⟨c0, c1⟩)
    (first
      | (go_at_call 36; (with_reducible refine (OF.out _).mono ?_); rintro e wq ⟨rfl, rfl⟩)
      | (go_at_call 35; (first | ((with_reducible refine (NU.out _ K1.out).mono ?_); rintro e wn ⟨rfl, kn⟩; have KN := Lib.hid (K1.out.trans kn); obtain ⟨c0, c1⟩ := (B1.out.kept kn).cells2; have cz := (B1.out.kept kn).lt) | ((with_reducible refine (NU.out _ K1.out.drew).mono ?_); rintro e wn ⟨rfl, kn⟩; have KN := Lib.hid (K1.out.drew.trans kn); obtain ⟨c0, c1⟩ := (B1.out.drew.kept kn).cells2; have cz := (B1.out.drew.kept kn).lt) | ((with_reducible refine (NU.out _ K2.out).mono ?_); rintro e wn ⟨rfl, kn⟩; have KN := Lib.hid (K2.out.trans kn); obtain ⟨c0, c1⟩ := (B2.out.kept kn).cells2; have cz := (B2.out.kept kn).lt; obtain ⟨y0, y1, y2, y3, y4, y5⟩ := (A2.out.kept kn).cells6; have yf := (A2.out.kept kn).free; have yz := (A2.out.kept kn).lt) | ((with_reducible refine (NU.out _ K2.out.drew).mono ?_); rintro e wn ⟨rfl, kn⟩; have KN := Lib.hid (K2.out.drew.trans kn); obtain ⟨c0, c1⟩ := (B2.out.drew.kept kn).cells2; have cz := (B2.out.drew.kept kn).lt; obtain ⟨y0, y1, y2, y3, y4, y5⟩ := (A2.out.drew.kept kn).cells6; have yf := (A2.out.drew.kept kn).free; have yz := (A2.out.drew.kept kn).lt))))
  all_goals
    go_wp2_with fail
    (with_reducible refine (CA.out _ (HR.out.kept (by repeat (with_reducible first | exact KN.out | refine Kept.drew ?_ | refine Kept.alloc ?_ _ _ | refine Kept.set ?_ (by first | exact Nat.le_refl _ | exact Nat.le_succ _) _)))).mono ?_)
    rintro e w3 ⟨rfl, h3⟩
    have R3 := Lib.hid h3
    clear h3
    go_wp2_with fail
    go_ret
    exact ⟨rfl, R3.out⟩

set_option maxRecDepth 100000 in
set_option maxHeartbeats 16000000 in
theorem step_l (wB : World) (pb sb : Nat) (P : Pen) (l : List Ob) (p : Option Addr) (cp : Nat) (a b : Int) (w : World) (h : PenR wB pb sb w P) (ho : OpL w l p) (hN : HasN l [a, b]) (he : P.st.m.appE a b = 0) (hb : P.path.length ≤ 549755813888) :
    Calls Tryz.prog 28 #[.pointer (some ⟨pb, 0, none⟩), .agg #[.string ⟨#[108]⟩, .slice p l.length cp]] w fun e w' => e = .returned (.int .i64 0) ∧ PenR wB pb sb w' (P.point lOp a b) := by
  have OF := Lib.hid (fun w => ofN_l w)
  have NU := Lib.hid (fun wx (k : Kept w wx) => show Calls Tryz.prog 35 #[.slice p l.length cp, .int .i64 2] wx (fun e w' => e = .returned (.tuple #[.agg #[.int .i64 a, .int .i64 b, .int .i64 0, .int .i64 0, .int .i64 0, .int .i64 0], .int .i64 0]) ∧ Kept wx w') from numbers_any l p cp [a, b] wx (ho.kept k) hN (by simp))
  have CA := Lib.hid (fun w' (k : PenR wB pb sb w' P) => show Calls Tryz.prog 38 #[.pointer (some ⟨pb, 0, none⟩), .string ⟨#[108]⟩, .agg #[.int .i64 a, .int .i64 b, .int .i64 0, .int .i64 0, .int .i64 0, .int .i64 0]] w' (fun e w'' => e = .returned (.int .i64 0) ∧ PenR wB pb sb w'' (P.point lOp a b)) from trace_l wB pb sb P a b 0 0 0 0 w' k he hb)
  obtain ⟨nm, hn⟩ : ∃ nm : ByteArray, nm = ⟨#[108]⟩ := ⟨_, rfl⟩
  rw [← hn] at OF CA ⊢
  have z0 : (nm.toList == [113]) = false := by rw [hn]; kernel_rfl
  have z1 : (nm.toList == [81]) = false := by rw [hn]; kernel_rfl
  have z2 : (nm.toList == [99, 109]) = false := by rw [hn]; kernel_rfl
  have z3 : (nm.toList == [119]) = false := by rw [hn]; kernel_rfl
  have z4 : (nm.toList == [103]) = false := by rw [hn]; kernel_rfl
  have z5 : (nm.toList == [71]) = false := by rw [hn]; kernel_rfl
  have z6 : (nm.toList == [114, 103]) = false := by rw [hn]; kernel_rfl
  have z7 : (nm.toList == [82, 71]) = false := by rw [hn]; kernel_rfl
  have z8 : (nm.toList == [109]) = false := by rw [hn]; kernel_rfl
  have z9 : (nm.toList == [108]) = true := by rw [hn]; kernel_rfl
  have HR := Lib.hid h
  have K1 := Lib.hid ((Kept.refl w).alloc #[.string nm, .slice p l.length cp] 53)
  have B1 := Lib.hid (Blk.fresh w #[.string nm, .slice p l.length cp] 53)
  have K2 := Lib.hid (K1.out.alloc #[.int .i64 0, .int .i64 0, .int .i64 0, .int .i64 0, .int .i64 0, .int .i64 0] 27)
  have B2 := Lib.hid (B1.out.alloc (.cells #[.int .i64 0, .int .i64 0, .int .i64 0, .int .i64 0, .int .i64 0, .int .i64 0] 27 (0, 0)))
  have A2 := Lib.hid (Blk.fresh' (w := w.alloc (.cells #[.string nm, .slice p l.length cp] 53 (0, 0))) (b := w.heap.size + 1) #[.int .i64 0, .int .i64 0, .int .i64 0, .int .i64 0, .int .i64 0, .int .i64 0] 27 (by simp))
  clear hn h ho hN
  go_enter Tryz.func28, Tryz.ntmps28
  go_wp2_with fail
  go_region_held3 (fun w' => w'.cell? ⟨w.heap.size, 0, none⟩ = some (.string nm) ∧ w'.cell? ⟨w.heap.size, 1, none⟩ = some (.slice p l.length cp)) (first | go_keep | exact ⟨c0, c1⟩)
    (first
      | (go_at_call 36; (with_reducible refine (OF.out _).mono ?_); rintro e wq ⟨rfl, rfl⟩)
      | (go_at_call 35; (first | ((with_reducible refine (NU.out _ K1.out).mono ?_); rintro e wn ⟨rfl, kn⟩; have KN := Lib.hid (K1.out.trans kn); obtain ⟨c0, c1⟩ := (B1.out.kept kn).cells2; have cz := (B1.out.kept kn).lt) | ((with_reducible refine (NU.out _ K1.out.drew).mono ?_); rintro e wn ⟨rfl, kn⟩; have KN := Lib.hid (K1.out.drew.trans kn); obtain ⟨c0, c1⟩ := (B1.out.drew.kept kn).cells2; have cz := (B1.out.drew.kept kn).lt) | ((with_reducible refine (NU.out _ K2.out).mono ?_); rintro e wn ⟨rfl, kn⟩; have KN := Lib.hid (K2.out.trans kn); obtain ⟨c0, c1⟩ := (B2.out.kept kn).cells2; have cz := (B2.out.kept kn).lt; obtain ⟨y0, y1, y2, y3, y4, y5⟩ := (A2.out.kept kn).cells6; have yf := (A2.out.kept kn).free; have yz := (A2.out.kept kn).lt) | ((with_reducible refine (NU.out _ K2.out.drew).mono ?_); rintro e wn ⟨rfl, kn⟩; have KN := Lib.hid (K2.out.drew.trans kn); obtain ⟨c0, c1⟩ := (B2.out.drew.kept kn).cells2; have cz := (B2.out.drew.kept kn).lt; obtain ⟨y0, y1, y2, y3, y4, y5⟩ := (A2.out.drew.kept kn).cells6; have yf := (A2.out.drew.kept kn).free; have yz := (A2.out.drew.kept kn).lt))))
  all_goals
    go_wp2_with fail
    (with_reducible refine (CA.out _ (HR.out.kept (by repeat (with_reducible first | exact KN.out | refine Kept.drew ?_ | refine Kept.alloc ?_ _ _ | refine Kept.set ?_ (by first | exact Nat.le_refl _ | exact Nat.le_succ _) _)))).mono ?_)
    rintro e w3 ⟨rfl, h3⟩
    have R3 := Lib.hid h3
    clear h3
    go_wp2_with fail
    go_ret
    exact ⟨rfl, R3.out⟩

set_option maxRecDepth 100000 in
set_option maxHeartbeats 16000000 in
theorem step_re (wB : World) (pb sb : Nat) (P : Pen) (l : List Ob) (p : Option Addr) (cp : Nat) (a b c d : Int) (w : World) (h : PenR wB pb sb w P) (ho : OpL w l p) (hN : HasN l [a, b, c, d]) (e1 : Fx.addE a c = 0) (e2 : Fx.addE b d = 0) (a1 : P.st.m.appE a b = 0) (a2 : P.st.m.appE (Fx.addV a c) b = 0) (a3 : P.st.m.appE (Fx.addV a c) (Fx.addV b d) = 0) (a4 : P.st.m.appE a (Fx.addV b d) = 0) (hb : P.path.length ≤ 274877906944) :
    Calls Tryz.prog 28 #[.pointer (some ⟨pb, 0, none⟩), .agg #[.string ⟨#[114, 101]⟩, .slice p l.length cp]] w fun e w' => e = .returned (.int .i64 0) ∧ PenR wB pb sb w' (boxed P a b (Fx.addV a c) (Fx.addV b d)) := by
  have OF := Lib.hid (fun w => ofN_re w)
  have NU := Lib.hid (fun wx (k : Kept w wx) => show Calls Tryz.prog 35 #[.slice p l.length cp, .int .i64 4] wx (fun e w' => e = .returned (.tuple #[.agg #[.int .i64 a, .int .i64 b, .int .i64 c, .int .i64 d, .int .i64 0, .int .i64 0], .int .i64 0]) ∧ Kept wx w') from numbers_any l p cp [a, b, c, d] wx (ho.kept k) hN (by simp))
  have CA := Lib.hid (fun w' (k : PenR wB pb sb w' P) => show Calls Tryz.prog 38 #[.pointer (some ⟨pb, 0, none⟩), .string ⟨#[114, 101]⟩, .agg #[.int .i64 a, .int .i64 b, .int .i64 c, .int .i64 d, .int .i64 0, .int .i64 0]] w' (fun e w'' => e = .returned (.int .i64 0) ∧ PenR wB pb sb w'' (boxed P a b (Fx.addV a c) (Fx.addV b d))) from trace_re wB pb sb P a b c d 0 0 w' k e1 e2 a1 a2 a3 a4 hb)
  obtain ⟨nm, hn⟩ : ∃ nm : ByteArray, nm = ⟨#[114, 101]⟩ := ⟨_, rfl⟩
  rw [← hn] at OF CA ⊢
  have z0 : (nm.toList == [113]) = false := by rw [hn]; kernel_rfl
  have z1 : (nm.toList == [81]) = false := by rw [hn]; kernel_rfl
  have z2 : (nm.toList == [99, 109]) = false := by rw [hn]; kernel_rfl
  have z3 : (nm.toList == [119]) = false := by rw [hn]; kernel_rfl
  have z4 : (nm.toList == [103]) = false := by rw [hn]; kernel_rfl
  have z5 : (nm.toList == [71]) = false := by rw [hn]; kernel_rfl
  have z6 : (nm.toList == [114, 103]) = false := by rw [hn]; kernel_rfl
  have z7 : (nm.toList == [82, 71]) = false := by rw [hn]; kernel_rfl
  have z8 : (nm.toList == [109]) = false := by rw [hn]; kernel_rfl
  have z9 : (nm.toList == [108]) = false := by rw [hn]; kernel_rfl
  have z10 : (nm.toList == [104]) = false := by rw [hn]; kernel_rfl
  have z11 : (nm.toList == [114, 101]) = true := by rw [hn]; kernel_rfl
  have HR := Lib.hid h
  have K1 := Lib.hid ((Kept.refl w).alloc #[.string nm, .slice p l.length cp] 53)
  have B1 := Lib.hid (Blk.fresh w #[.string nm, .slice p l.length cp] 53)
  have K2 := Lib.hid (K1.out.alloc #[.int .i64 0, .int .i64 0, .int .i64 0, .int .i64 0, .int .i64 0, .int .i64 0] 27)
  have B2 := Lib.hid (B1.out.alloc (.cells #[.int .i64 0, .int .i64 0, .int .i64 0, .int .i64 0, .int .i64 0, .int .i64 0] 27 (0, 0)))
  have A2 := Lib.hid (Blk.fresh' (w := w.alloc (.cells #[.string nm, .slice p l.length cp] 53 (0, 0))) (b := w.heap.size + 1) #[.int .i64 0, .int .i64 0, .int .i64 0, .int .i64 0, .int .i64 0, .int .i64 0] 27 (by simp))
  clear hn h ho hN
  go_enter Tryz.func28, Tryz.ntmps28
  go_wp2_with fail
  go_region_held3 (fun w' => w'.cell? ⟨w.heap.size, 0, none⟩ = some (.string nm) ∧ w'.cell? ⟨w.heap.size, 1, none⟩ = some (.slice p l.length cp)) (first | go_keep | exact ⟨c0, c1⟩)
    (first
      | (go_at_call 36; (with_reducible refine (OF.out _).mono ?_); rintro e wq ⟨rfl, rfl⟩)
      | (go_at_call 35; (first | ((with_reducible refine (NU.out _ K1.out).mono ?_); rintro e wn ⟨rfl, kn⟩; have KN := Lib.hid (K1.out.trans kn); obtain ⟨c0, c1⟩ := (B1.out.kept kn).cells2; have cz := (B1.out.kept kn).lt) | ((with_reducible refine (NU.out _ K1.out.drew).mono ?_); rintro e wn ⟨rfl, kn⟩; have KN := Lib.hid (K1.out.drew.trans kn); obtain ⟨c0, c1⟩ := (B1.out.drew.kept kn).cells2; have cz := (B1.out.drew.kept kn).lt) | ((with_reducible refine (NU.out _ K2.out).mono ?_); rintro e wn ⟨rfl, kn⟩; have KN := Lib.hid (K2.out.trans kn); obtain ⟨c0, c1⟩ := (B2.out.kept kn).cells2; have cz := (B2.out.kept kn).lt; obtain ⟨y0, y1, y2, y3, y4, y5⟩ := (A2.out.kept kn).cells6; have yf := (A2.out.kept kn).free; have yz := (A2.out.kept kn).lt) | ((with_reducible refine (NU.out _ K2.out.drew).mono ?_); rintro e wn ⟨rfl, kn⟩; have KN := Lib.hid (K2.out.drew.trans kn); obtain ⟨c0, c1⟩ := (B2.out.drew.kept kn).cells2; have cz := (B2.out.drew.kept kn).lt; obtain ⟨y0, y1, y2, y3, y4, y5⟩ := (A2.out.drew.kept kn).cells6; have yf := (A2.out.drew.kept kn).free; have yz := (A2.out.drew.kept kn).lt))))
  all_goals
    go_wp2_with fail
    (with_reducible refine (CA.out _ (HR.out.kept (by repeat (with_reducible first | exact KN.out | refine Kept.drew ?_ | refine Kept.alloc ?_ _ _ | refine Kept.set ?_ (by first | exact Nat.le_refl _ | exact Nat.le_succ _) _)))).mono ?_)
    rintro e w3 ⟨rfl, h3⟩
    have R3 := Lib.hid h3
    clear h3
    go_wp2_with fail
    go_ret
    exact ⟨rfl, R3.out⟩

end Go.Proofs.YtbgdeaeikijdgaaGreatDoor

namespace Go.Proofs.YtbgdeaeikijdgaaGreatDoor
open Go.RowKit Cx Px
set_option linter.unusedSimpArgs false
set_option linter.unusedVariables false

set_option maxRecDepth 100000 in
set_option maxHeartbeats 16000000 in
theorem step_f (wB : World) (pb sb : Nat) (P : Pen) (l : List Ob) (p : Option Addr) (cp : Nat) (w : World) (h : PenR wB pb sb w P) (ho : OpL w l p) (hN : HasN l []) (hb : P.out.length < 65536) (hl : P.path.length ≤ 549755813888) :
    Calls Tryz.prog 28 #[.pointer (some ⟨pb, 0, none⟩), .agg #[.string ⟨#[102]⟩, .slice p l.length cp]] w fun e w' => e = .returned (.int .i64 0) ∧ PenR wB pb sb w' (P.paint 1) := by
  have OF := Lib.hid (fun w => ofN_f w)
  have NU := Lib.hid (fun wx (k : Kept w wx) => show Calls Tryz.prog 35 #[.slice p l.length cp, .int .i64 0] wx (fun e w' => e = .returned (.tuple #[.agg #[.int .i64 0, .int .i64 0, .int .i64 0, .int .i64 0, .int .i64 0, .int .i64 0], .int .i64 0]) ∧ Kept wx w') from numbers_any l p cp [] wx (ho.kept k) hN (by simp))
  have CA := Lib.hid (fun w' (k : PenR wB pb sb w' P) => show Calls Tryz.prog 39 #[.pointer (some ⟨pb, 0, none⟩), .string ⟨#[102]⟩] w' (fun e w'' => e = .returned (.int .i64 0) ∧ PenR wB pb sb w'' (P.paint 1)) from paint_f wB pb sb P w' k hb hl)
  obtain ⟨nm, hn⟩ : ∃ nm : ByteArray, nm = ⟨#[102]⟩ := ⟨_, rfl⟩
  rw [← hn] at OF CA ⊢
  have z0 : (nm.toList == [113]) = false := by rw [hn]; kernel_rfl
  have z1 : (nm.toList == [81]) = false := by rw [hn]; kernel_rfl
  have z2 : (nm.toList == [99, 109]) = false := by rw [hn]; kernel_rfl
  have z3 : (nm.toList == [119]) = false := by rw [hn]; kernel_rfl
  have z4 : (nm.toList == [103]) = false := by rw [hn]; kernel_rfl
  have z5 : (nm.toList == [71]) = false := by rw [hn]; kernel_rfl
  have z6 : (nm.toList == [114, 103]) = false := by rw [hn]; kernel_rfl
  have z7 : (nm.toList == [82, 71]) = false := by rw [hn]; kernel_rfl
  have z8 : (nm.toList == [109]) = false := by rw [hn]; kernel_rfl
  have z9 : (nm.toList == [108]) = false := by rw [hn]; kernel_rfl
  have z10 : (nm.toList == [104]) = false := by rw [hn]; kernel_rfl
  have z11 : (nm.toList == [114, 101]) = false := by rw [hn]; kernel_rfl
  have z12 : (nm.toList == [102]) = true := by rw [hn]; kernel_rfl
  have HR := Lib.hid h
  have K1 := Lib.hid ((Kept.refl w).alloc #[.string nm, .slice p l.length cp] 53)
  have B1 := Lib.hid (Blk.fresh w #[.string nm, .slice p l.length cp] 53)
  have K2 := Lib.hid (K1.out.alloc #[.int .i64 0, .int .i64 0, .int .i64 0, .int .i64 0, .int .i64 0, .int .i64 0] 27)
  have B2 := Lib.hid (B1.out.alloc (.cells #[.int .i64 0, .int .i64 0, .int .i64 0, .int .i64 0, .int .i64 0, .int .i64 0] 27 (0, 0)))
  have A2 := Lib.hid (Blk.fresh' (w := w.alloc (.cells #[.string nm, .slice p l.length cp] 53 (0, 0))) (b := w.heap.size + 1) #[.int .i64 0, .int .i64 0, .int .i64 0, .int .i64 0, .int .i64 0, .int .i64 0] 27 (by simp))
  clear hn h ho hN
  go_enter Tryz.func28, Tryz.ntmps28
  go_wp2_with fail
  go_region_held3 (fun w' => w'.cell? ⟨w.heap.size, 0, none⟩ = some (.string nm) ∧ w'.cell? ⟨w.heap.size, 1, none⟩ = some (.slice p l.length cp)) (first | go_keep | exact ⟨c0, c1⟩)
    (first
      | (go_at_call 36; (with_reducible refine (OF.out _).mono ?_); rintro e wq ⟨rfl, rfl⟩)
      | (go_at_call 35; (first | ((with_reducible refine (NU.out _ K1.out).mono ?_); rintro e wn ⟨rfl, kn⟩; have KN := Lib.hid (K1.out.trans kn); obtain ⟨c0, c1⟩ := (B1.out.kept kn).cells2; have cz := (B1.out.kept kn).lt) | ((with_reducible refine (NU.out _ K1.out.drew).mono ?_); rintro e wn ⟨rfl, kn⟩; have KN := Lib.hid (K1.out.drew.trans kn); obtain ⟨c0, c1⟩ := (B1.out.drew.kept kn).cells2; have cz := (B1.out.drew.kept kn).lt) | ((with_reducible refine (NU.out _ K2.out).mono ?_); rintro e wn ⟨rfl, kn⟩; have KN := Lib.hid (K2.out.trans kn); obtain ⟨c0, c1⟩ := (B2.out.kept kn).cells2; have cz := (B2.out.kept kn).lt; obtain ⟨y0, y1, y2, y3, y4, y5⟩ := (A2.out.kept kn).cells6; have yf := (A2.out.kept kn).free; have yz := (A2.out.kept kn).lt) | ((with_reducible refine (NU.out _ K2.out.drew).mono ?_); rintro e wn ⟨rfl, kn⟩; have KN := Lib.hid (K2.out.drew.trans kn); obtain ⟨c0, c1⟩ := (B2.out.drew.kept kn).cells2; have cz := (B2.out.drew.kept kn).lt; obtain ⟨y0, y1, y2, y3, y4, y5⟩ := (A2.out.drew.kept kn).cells6; have yf := (A2.out.drew.kept kn).free; have yz := (A2.out.drew.kept kn).lt))))
  all_goals
    go_wp2_with fail
    (with_reducible refine (CA.out _ (HR.out.kept (by repeat (with_reducible first | exact KN.out | refine Kept.drew ?_ | refine Kept.alloc ?_ _ _ | refine Kept.set ?_ (by first | exact Nat.le_refl _ | exact Nat.le_succ _) _)))).mono ?_)
    rintro e w3 ⟨rfl, h3⟩
    have R3 := Lib.hid h3
    clear h3
    go_wp2_with fail
    go_ret
    exact ⟨rfl, R3.out⟩

set_option maxRecDepth 100000 in
set_option maxHeartbeats 16000000 in
theorem step_bigS (wB : World) (pb sb : Nat) (P : Pen) (l : List Ob) (p : Option Addr) (cp : Nat) (w : World) (h : PenR wB pb sb w P) (ho : OpL w l p) (hN : HasN l []) (hb : P.out.length < 65536) (hl : P.path.length ≤ 549755813888) :
    Calls Tryz.prog 28 #[.pointer (some ⟨pb, 0, none⟩), .agg #[.string ⟨#[83]⟩, .slice p l.length cp]] w fun e w' => e = .returned (.int .i64 0) ∧ PenR wB pb sb w' (P.paint 2) := by
  have OF := Lib.hid (fun w => ofN_bigS w)
  have NU := Lib.hid (fun wx (k : Kept w wx) => show Calls Tryz.prog 35 #[.slice p l.length cp, .int .i64 0] wx (fun e w' => e = .returned (.tuple #[.agg #[.int .i64 0, .int .i64 0, .int .i64 0, .int .i64 0, .int .i64 0, .int .i64 0], .int .i64 0]) ∧ Kept wx w') from numbers_any l p cp [] wx (ho.kept k) hN (by simp))
  have CA := Lib.hid (fun w' (k : PenR wB pb sb w' P) => show Calls Tryz.prog 39 #[.pointer (some ⟨pb, 0, none⟩), .string ⟨#[83]⟩] w' (fun e w'' => e = .returned (.int .i64 0) ∧ PenR wB pb sb w'' (P.paint 2)) from paint_bigS wB pb sb P w' k hb hl)
  obtain ⟨nm, hn⟩ : ∃ nm : ByteArray, nm = ⟨#[83]⟩ := ⟨_, rfl⟩
  rw [← hn] at OF CA ⊢
  have z0 : (nm.toList == [113]) = false := by rw [hn]; kernel_rfl
  have z1 : (nm.toList == [81]) = false := by rw [hn]; kernel_rfl
  have z2 : (nm.toList == [99, 109]) = false := by rw [hn]; kernel_rfl
  have z3 : (nm.toList == [119]) = false := by rw [hn]; kernel_rfl
  have z4 : (nm.toList == [103]) = false := by rw [hn]; kernel_rfl
  have z5 : (nm.toList == [71]) = false := by rw [hn]; kernel_rfl
  have z6 : (nm.toList == [114, 103]) = false := by rw [hn]; kernel_rfl
  have z7 : (nm.toList == [82, 71]) = false := by rw [hn]; kernel_rfl
  have z8 : (nm.toList == [109]) = false := by rw [hn]; kernel_rfl
  have z9 : (nm.toList == [108]) = false := by rw [hn]; kernel_rfl
  have z10 : (nm.toList == [104]) = false := by rw [hn]; kernel_rfl
  have z11 : (nm.toList == [114, 101]) = false := by rw [hn]; kernel_rfl
  have z12 : (nm.toList == [102]) = false := by rw [hn]; kernel_rfl
  have z13 : (nm.toList == [70]) = false := by rw [hn]; kernel_rfl
  have z14 : (nm.toList == [102, 42]) = false := by rw [hn]; kernel_rfl
  have z15 : (nm.toList == [83]) = true := by rw [hn]; kernel_rfl
  have HR := Lib.hid h
  have K1 := Lib.hid ((Kept.refl w).alloc #[.string nm, .slice p l.length cp] 53)
  have B1 := Lib.hid (Blk.fresh w #[.string nm, .slice p l.length cp] 53)
  have K2 := Lib.hid (K1.out.alloc #[.int .i64 0, .int .i64 0, .int .i64 0, .int .i64 0, .int .i64 0, .int .i64 0] 27)
  have B2 := Lib.hid (B1.out.alloc (.cells #[.int .i64 0, .int .i64 0, .int .i64 0, .int .i64 0, .int .i64 0, .int .i64 0] 27 (0, 0)))
  have A2 := Lib.hid (Blk.fresh' (w := w.alloc (.cells #[.string nm, .slice p l.length cp] 53 (0, 0))) (b := w.heap.size + 1) #[.int .i64 0, .int .i64 0, .int .i64 0, .int .i64 0, .int .i64 0, .int .i64 0] 27 (by simp))
  clear hn h ho hN
  go_enter Tryz.func28, Tryz.ntmps28
  go_wp2_with fail
  go_region_held3 (fun w' => w'.cell? ⟨w.heap.size, 0, none⟩ = some (.string nm) ∧ w'.cell? ⟨w.heap.size, 1, none⟩ = some (.slice p l.length cp)) (first | go_keep | exact ⟨c0, c1⟩)
    (first
      | (go_at_call 36; (with_reducible refine (OF.out _).mono ?_); rintro e wq ⟨rfl, rfl⟩)
      | (go_at_call 35; (first | ((with_reducible refine (NU.out _ K1.out).mono ?_); rintro e wn ⟨rfl, kn⟩; have KN := Lib.hid (K1.out.trans kn); obtain ⟨c0, c1⟩ := (B1.out.kept kn).cells2; have cz := (B1.out.kept kn).lt) | ((with_reducible refine (NU.out _ K1.out.drew).mono ?_); rintro e wn ⟨rfl, kn⟩; have KN := Lib.hid (K1.out.drew.trans kn); obtain ⟨c0, c1⟩ := (B1.out.drew.kept kn).cells2; have cz := (B1.out.drew.kept kn).lt) | ((with_reducible refine (NU.out _ K2.out).mono ?_); rintro e wn ⟨rfl, kn⟩; have KN := Lib.hid (K2.out.trans kn); obtain ⟨c0, c1⟩ := (B2.out.kept kn).cells2; have cz := (B2.out.kept kn).lt; obtain ⟨y0, y1, y2, y3, y4, y5⟩ := (A2.out.kept kn).cells6; have yf := (A2.out.kept kn).free; have yz := (A2.out.kept kn).lt) | ((with_reducible refine (NU.out _ K2.out.drew).mono ?_); rintro e wn ⟨rfl, kn⟩; have KN := Lib.hid (K2.out.drew.trans kn); obtain ⟨c0, c1⟩ := (B2.out.drew.kept kn).cells2; have cz := (B2.out.drew.kept kn).lt; obtain ⟨y0, y1, y2, y3, y4, y5⟩ := (A2.out.drew.kept kn).cells6; have yf := (A2.out.drew.kept kn).free; have yz := (A2.out.drew.kept kn).lt))))
  all_goals
    go_wp2_with fail
    (with_reducible refine (CA.out _ (HR.out.kept (by repeat (with_reducible first | exact KN.out | refine Kept.drew ?_ | refine Kept.alloc ?_ _ _ | refine Kept.set ?_ (by first | exact Nat.le_refl _ | exact Nat.le_succ _) _)))).mono ?_)
    rintro e w3 ⟨rfl, h3⟩
    have R3 := Lib.hid h3
    clear h3
    go_wp2_with fail
    go_ret
    exact ⟨rfl, R3.out⟩

set_option maxRecDepth 100000 in
set_option maxHeartbeats 16000000 in
theorem step_bigB (wB : World) (pb sb : Nat) (P : Pen) (l : List Ob) (p : Option Addr) (cp : Nat) (w : World) (h : PenR wB pb sb w P) (ho : OpL w l p) (hN : HasN l []) (hb : P.out.length < 65536) (hl : P.path.length ≤ 549755813888) :
    Calls Tryz.prog 28 #[.pointer (some ⟨pb, 0, none⟩), .agg #[.string ⟨#[66]⟩, .slice p l.length cp]] w fun e w' => e = .returned (.int .i64 0) ∧ PenR wB pb sb w' (P.paint 3) := by
  have OF := Lib.hid (fun w => ofN_bigB w)
  have NU := Lib.hid (fun wx (k : Kept w wx) => show Calls Tryz.prog 35 #[.slice p l.length cp, .int .i64 0] wx (fun e w' => e = .returned (.tuple #[.agg #[.int .i64 0, .int .i64 0, .int .i64 0, .int .i64 0, .int .i64 0, .int .i64 0], .int .i64 0]) ∧ Kept wx w') from numbers_any l p cp [] wx (ho.kept k) hN (by simp))
  have CA := Lib.hid (fun w' (k : PenR wB pb sb w' P) => show Calls Tryz.prog 39 #[.pointer (some ⟨pb, 0, none⟩), .string ⟨#[66]⟩] w' (fun e w'' => e = .returned (.int .i64 0) ∧ PenR wB pb sb w'' (P.paint 3)) from paint_bigB wB pb sb P w' k hb hl)
  obtain ⟨nm, hn⟩ : ∃ nm : ByteArray, nm = ⟨#[66]⟩ := ⟨_, rfl⟩
  rw [← hn] at OF CA ⊢
  have z0 : (nm.toList == [113]) = false := by rw [hn]; kernel_rfl
  have z1 : (nm.toList == [81]) = false := by rw [hn]; kernel_rfl
  have z2 : (nm.toList == [99, 109]) = false := by rw [hn]; kernel_rfl
  have z3 : (nm.toList == [119]) = false := by rw [hn]; kernel_rfl
  have z4 : (nm.toList == [103]) = false := by rw [hn]; kernel_rfl
  have z5 : (nm.toList == [71]) = false := by rw [hn]; kernel_rfl
  have z6 : (nm.toList == [114, 103]) = false := by rw [hn]; kernel_rfl
  have z7 : (nm.toList == [82, 71]) = false := by rw [hn]; kernel_rfl
  have z8 : (nm.toList == [109]) = false := by rw [hn]; kernel_rfl
  have z9 : (nm.toList == [108]) = false := by rw [hn]; kernel_rfl
  have z10 : (nm.toList == [104]) = false := by rw [hn]; kernel_rfl
  have z11 : (nm.toList == [114, 101]) = false := by rw [hn]; kernel_rfl
  have z12 : (nm.toList == [102]) = false := by rw [hn]; kernel_rfl
  have z13 : (nm.toList == [70]) = false := by rw [hn]; kernel_rfl
  have z14 : (nm.toList == [102, 42]) = false := by rw [hn]; kernel_rfl
  have z15 : (nm.toList == [83]) = false := by rw [hn]; kernel_rfl
  have z16 : (nm.toList == [115]) = false := by rw [hn]; kernel_rfl
  have z17 : (nm.toList == [66]) = true := by rw [hn]; kernel_rfl
  have HR := Lib.hid h
  have K1 := Lib.hid ((Kept.refl w).alloc #[.string nm, .slice p l.length cp] 53)
  have B1 := Lib.hid (Blk.fresh w #[.string nm, .slice p l.length cp] 53)
  have K2 := Lib.hid (K1.out.alloc #[.int .i64 0, .int .i64 0, .int .i64 0, .int .i64 0, .int .i64 0, .int .i64 0] 27)
  have B2 := Lib.hid (B1.out.alloc (.cells #[.int .i64 0, .int .i64 0, .int .i64 0, .int .i64 0, .int .i64 0, .int .i64 0] 27 (0, 0)))
  have A2 := Lib.hid (Blk.fresh' (w := w.alloc (.cells #[.string nm, .slice p l.length cp] 53 (0, 0))) (b := w.heap.size + 1) #[.int .i64 0, .int .i64 0, .int .i64 0, .int .i64 0, .int .i64 0, .int .i64 0] 27 (by simp))
  clear hn h ho hN
  go_enter Tryz.func28, Tryz.ntmps28
  go_wp2_with fail
  go_region_held3 (fun w' => w'.cell? ⟨w.heap.size, 0, none⟩ = some (.string nm) ∧ w'.cell? ⟨w.heap.size, 1, none⟩ = some (.slice p l.length cp)) (first | go_keep | exact ⟨c0, c1⟩)
    (first
      | (go_at_call 36; (with_reducible refine (OF.out _).mono ?_); rintro e wq ⟨rfl, rfl⟩)
      | (go_at_call 35; (first | ((with_reducible refine (NU.out _ K1.out).mono ?_); rintro e wn ⟨rfl, kn⟩; have KN := Lib.hid (K1.out.trans kn); obtain ⟨c0, c1⟩ := (B1.out.kept kn).cells2; have cz := (B1.out.kept kn).lt) | ((with_reducible refine (NU.out _ K1.out.drew).mono ?_); rintro e wn ⟨rfl, kn⟩; have KN := Lib.hid (K1.out.drew.trans kn); obtain ⟨c0, c1⟩ := (B1.out.drew.kept kn).cells2; have cz := (B1.out.drew.kept kn).lt) | ((with_reducible refine (NU.out _ K2.out).mono ?_); rintro e wn ⟨rfl, kn⟩; have KN := Lib.hid (K2.out.trans kn); obtain ⟨c0, c1⟩ := (B2.out.kept kn).cells2; have cz := (B2.out.kept kn).lt; obtain ⟨y0, y1, y2, y3, y4, y5⟩ := (A2.out.kept kn).cells6; have yf := (A2.out.kept kn).free; have yz := (A2.out.kept kn).lt) | ((with_reducible refine (NU.out _ K2.out.drew).mono ?_); rintro e wn ⟨rfl, kn⟩; have KN := Lib.hid (K2.out.drew.trans kn); obtain ⟨c0, c1⟩ := (B2.out.drew.kept kn).cells2; have cz := (B2.out.drew.kept kn).lt; obtain ⟨y0, y1, y2, y3, y4, y5⟩ := (A2.out.drew.kept kn).cells6; have yf := (A2.out.drew.kept kn).free; have yz := (A2.out.drew.kept kn).lt))))
  all_goals
    go_wp2_with fail
    (with_reducible refine (CA.out _ (HR.out.kept (by repeat (with_reducible first | exact KN.out | refine Kept.drew ?_ | refine Kept.alloc ?_ _ _ | refine Kept.set ?_ (by first | exact Nat.le_refl _ | exact Nat.le_succ _) _)))).mono ?_)
    rintro e w3 ⟨rfl, h3⟩
    have R3 := Lib.hid h3
    clear h3
    go_wp2_with fail
    go_ret
    exact ⟨rfl, R3.out⟩

set_option maxRecDepth 100000 in
set_option maxHeartbeats 16000000 in
theorem step_s (wB : World) (pb sb : Nat) (P : Pen) (l : List Ob) (p : Option Addr) (cp : Nat) (w : World) (h : PenR wB pb sb w P) (ho : OpL w l p) (hN : HasN l []) (hb : P.out.length < 65536) (hl : P.path.length ≤ 549755813888) :
    Calls Tryz.prog 28 #[.pointer (some ⟨pb, 0, none⟩), .agg #[.string ⟨#[115]⟩, .slice p l.length cp]] w fun e w' => e = .returned (.int .i64 0) ∧ PenR wB pb sb w' (P.shut.paint 2) := by
  have OF := Lib.hid (fun w => ofN_s w)
  have NU := Lib.hid (fun wx (k : Kept w wx) => show Calls Tryz.prog 35 #[.slice p l.length cp, .int .i64 0] wx (fun e w' => e = .returned (.tuple #[.agg #[.int .i64 0, .int .i64 0, .int .i64 0, .int .i64 0, .int .i64 0, .int .i64 0], .int .i64 0]) ∧ Kept wx w') from numbers_any l p cp [] wx (ho.kept k) hN (by simp))
  have CA := Lib.hid (fun w' (k : PenR wB pb sb w' P) => show Calls Tryz.prog 39 #[.pointer (some ⟨pb, 0, none⟩), .string ⟨#[115]⟩] w' (fun e w'' => e = .returned (.int .i64 0) ∧ PenR wB pb sb w'' (P.shut.paint 2)) from paint_s wB pb sb P w' k hb hl)
  obtain ⟨nm, hn⟩ : ∃ nm : ByteArray, nm = ⟨#[115]⟩ := ⟨_, rfl⟩
  rw [← hn] at OF CA ⊢
  have z0 : (nm.toList == [113]) = false := by rw [hn]; kernel_rfl
  have z1 : (nm.toList == [81]) = false := by rw [hn]; kernel_rfl
  have z2 : (nm.toList == [99, 109]) = false := by rw [hn]; kernel_rfl
  have z3 : (nm.toList == [119]) = false := by rw [hn]; kernel_rfl
  have z4 : (nm.toList == [103]) = false := by rw [hn]; kernel_rfl
  have z5 : (nm.toList == [71]) = false := by rw [hn]; kernel_rfl
  have z6 : (nm.toList == [114, 103]) = false := by rw [hn]; kernel_rfl
  have z7 : (nm.toList == [82, 71]) = false := by rw [hn]; kernel_rfl
  have z8 : (nm.toList == [109]) = false := by rw [hn]; kernel_rfl
  have z9 : (nm.toList == [108]) = false := by rw [hn]; kernel_rfl
  have z10 : (nm.toList == [104]) = false := by rw [hn]; kernel_rfl
  have z11 : (nm.toList == [114, 101]) = false := by rw [hn]; kernel_rfl
  have z12 : (nm.toList == [102]) = false := by rw [hn]; kernel_rfl
  have z13 : (nm.toList == [70]) = false := by rw [hn]; kernel_rfl
  have z14 : (nm.toList == [102, 42]) = false := by rw [hn]; kernel_rfl
  have z15 : (nm.toList == [83]) = false := by rw [hn]; kernel_rfl
  have z16 : (nm.toList == [115]) = true := by rw [hn]; kernel_rfl
  have HR := Lib.hid h
  have K1 := Lib.hid ((Kept.refl w).alloc #[.string nm, .slice p l.length cp] 53)
  have B1 := Lib.hid (Blk.fresh w #[.string nm, .slice p l.length cp] 53)
  have K2 := Lib.hid (K1.out.alloc #[.int .i64 0, .int .i64 0, .int .i64 0, .int .i64 0, .int .i64 0, .int .i64 0] 27)
  have B2 := Lib.hid (B1.out.alloc (.cells #[.int .i64 0, .int .i64 0, .int .i64 0, .int .i64 0, .int .i64 0, .int .i64 0] 27 (0, 0)))
  have A2 := Lib.hid (Blk.fresh' (w := w.alloc (.cells #[.string nm, .slice p l.length cp] 53 (0, 0))) (b := w.heap.size + 1) #[.int .i64 0, .int .i64 0, .int .i64 0, .int .i64 0, .int .i64 0, .int .i64 0] 27 (by simp))
  clear hn h ho hN
  go_enter Tryz.func28, Tryz.ntmps28
  go_wp2_with fail
  go_region_held3 (fun w' => w'.cell? ⟨w.heap.size, 0, none⟩ = some (.string nm) ∧ w'.cell? ⟨w.heap.size, 1, none⟩ = some (.slice p l.length cp)) (first | go_keep | exact ⟨c0, c1⟩)
    (first
      | (go_at_call 36; (with_reducible refine (OF.out _).mono ?_); rintro e wq ⟨rfl, rfl⟩)
      | (go_at_call 35; (first | ((with_reducible refine (NU.out _ K1.out).mono ?_); rintro e wn ⟨rfl, kn⟩; have KN := Lib.hid (K1.out.trans kn); obtain ⟨c0, c1⟩ := (B1.out.kept kn).cells2; have cz := (B1.out.kept kn).lt) | ((with_reducible refine (NU.out _ K1.out.drew).mono ?_); rintro e wn ⟨rfl, kn⟩; have KN := Lib.hid (K1.out.drew.trans kn); obtain ⟨c0, c1⟩ := (B1.out.drew.kept kn).cells2; have cz := (B1.out.drew.kept kn).lt) | ((with_reducible refine (NU.out _ K2.out).mono ?_); rintro e wn ⟨rfl, kn⟩; have KN := Lib.hid (K2.out.trans kn); obtain ⟨c0, c1⟩ := (B2.out.kept kn).cells2; have cz := (B2.out.kept kn).lt; obtain ⟨y0, y1, y2, y3, y4, y5⟩ := (A2.out.kept kn).cells6; have yf := (A2.out.kept kn).free; have yz := (A2.out.kept kn).lt) | ((with_reducible refine (NU.out _ K2.out.drew).mono ?_); rintro e wn ⟨rfl, kn⟩; have KN := Lib.hid (K2.out.drew.trans kn); obtain ⟨c0, c1⟩ := (B2.out.drew.kept kn).cells2; have cz := (B2.out.drew.kept kn).lt; obtain ⟨y0, y1, y2, y3, y4, y5⟩ := (A2.out.drew.kept kn).cells6; have yf := (A2.out.drew.kept kn).free; have yz := (A2.out.drew.kept kn).lt))))
  all_goals
    go_wp2_with fail
    (with_reducible refine (CA.out _ (HR.out.kept (by repeat (with_reducible first | exact KN.out | refine Kept.drew ?_ | refine Kept.alloc ?_ _ _ | refine Kept.set ?_ (by first | exact Nat.le_refl _ | exact Nat.le_succ _) _)))).mono ?_)
    rintro e w3 ⟨rfl, h3⟩
    have R3 := Lib.hid h3
    clear h3
    go_wp2_with fail
    go_ret
    exact ⟨rfl, R3.out⟩

set_option maxRecDepth 100000 in
set_option maxHeartbeats 16000000 in
theorem step_n (wB : World) (pb sb : Nat) (P : Pen) (l : List Ob) (p : Option Addr) (cp : Nat) (w : World) (h : PenR wB pb sb w P) (ho : OpL w l p) (hN : HasN l []) (hl : P.path.length ≤ 549755813888) :
    Calls Tryz.prog 28 #[.pointer (some ⟨pb, 0, none⟩), .agg #[.string ⟨#[110]⟩, .slice p l.length cp]] w fun e w' => e = .returned (.int .i64 0) ∧ PenR wB pb sb w' { P with path := [] } := by
  have OF := Lib.hid (fun w => ofN_n w)
  have NU := Lib.hid (fun wx (k : Kept w wx) => show Calls Tryz.prog 35 #[.slice p l.length cp, .int .i64 0] wx (fun e w' => e = .returned (.tuple #[.agg #[.int .i64 0, .int .i64 0, .int .i64 0, .int .i64 0, .int .i64 0, .int .i64 0], .int .i64 0]) ∧ Kept wx w') from numbers_any l p cp [] wx (ho.kept k) hN (by simp))
  have CA := Lib.hid (fun w' (k : PenR wB pb sb w' P) => show Calls Tryz.prog 39 #[.pointer (some ⟨pb, 0, none⟩), .string ⟨#[110]⟩] w' (fun e w'' => e = .returned (.int .i64 0) ∧ PenR wB pb sb w'' { P with path := [] }) from paint_n wB pb sb P w' k hl)
  obtain ⟨nm, hn⟩ : ∃ nm : ByteArray, nm = ⟨#[110]⟩ := ⟨_, rfl⟩
  rw [← hn] at OF CA ⊢
  have z0 : (nm.toList == [113]) = false := by rw [hn]; kernel_rfl
  have z1 : (nm.toList == [81]) = false := by rw [hn]; kernel_rfl
  have z2 : (nm.toList == [99, 109]) = false := by rw [hn]; kernel_rfl
  have z3 : (nm.toList == [119]) = false := by rw [hn]; kernel_rfl
  have z4 : (nm.toList == [103]) = false := by rw [hn]; kernel_rfl
  have z5 : (nm.toList == [71]) = false := by rw [hn]; kernel_rfl
  have z6 : (nm.toList == [114, 103]) = false := by rw [hn]; kernel_rfl
  have z7 : (nm.toList == [82, 71]) = false := by rw [hn]; kernel_rfl
  have z8 : (nm.toList == [109]) = false := by rw [hn]; kernel_rfl
  have z9 : (nm.toList == [108]) = false := by rw [hn]; kernel_rfl
  have z10 : (nm.toList == [104]) = false := by rw [hn]; kernel_rfl
  have z11 : (nm.toList == [114, 101]) = false := by rw [hn]; kernel_rfl
  have z12 : (nm.toList == [102]) = false := by rw [hn]; kernel_rfl
  have z13 : (nm.toList == [70]) = false := by rw [hn]; kernel_rfl
  have z14 : (nm.toList == [102, 42]) = false := by rw [hn]; kernel_rfl
  have z15 : (nm.toList == [83]) = false := by rw [hn]; kernel_rfl
  have z16 : (nm.toList == [115]) = false := by rw [hn]; kernel_rfl
  have z17 : (nm.toList == [66]) = false := by rw [hn]; kernel_rfl
  have z18 : (nm.toList == [66, 42]) = false := by rw [hn]; kernel_rfl
  have z19 : (nm.toList == [98]) = false := by rw [hn]; kernel_rfl
  have z20 : (nm.toList == [98, 42]) = false := by rw [hn]; kernel_rfl
  have z21 : (nm.toList == [110]) = true := by rw [hn]; kernel_rfl
  have HR := Lib.hid h
  have K1 := Lib.hid ((Kept.refl w).alloc #[.string nm, .slice p l.length cp] 53)
  have B1 := Lib.hid (Blk.fresh w #[.string nm, .slice p l.length cp] 53)
  have K2 := Lib.hid (K1.out.alloc #[.int .i64 0, .int .i64 0, .int .i64 0, .int .i64 0, .int .i64 0, .int .i64 0] 27)
  have B2 := Lib.hid (B1.out.alloc (.cells #[.int .i64 0, .int .i64 0, .int .i64 0, .int .i64 0, .int .i64 0, .int .i64 0] 27 (0, 0)))
  have A2 := Lib.hid (Blk.fresh' (w := w.alloc (.cells #[.string nm, .slice p l.length cp] 53 (0, 0))) (b := w.heap.size + 1) #[.int .i64 0, .int .i64 0, .int .i64 0, .int .i64 0, .int .i64 0, .int .i64 0] 27 (by simp))
  clear hn h ho hN
  go_enter Tryz.func28, Tryz.ntmps28
  go_wp2_with fail
  go_region_held3 (fun w' => w'.cell? ⟨w.heap.size, 0, none⟩ = some (.string nm) ∧ w'.cell? ⟨w.heap.size, 1, none⟩ = some (.slice p l.length cp)) (first | go_keep | exact ⟨c0, c1⟩)
    (first
      | (go_at_call 36; (with_reducible refine (OF.out _).mono ?_); rintro e wq ⟨rfl, rfl⟩)
      | (go_at_call 35; (first | ((with_reducible refine (NU.out _ K1.out).mono ?_); rintro e wn ⟨rfl, kn⟩; have KN := Lib.hid (K1.out.trans kn); obtain ⟨c0, c1⟩ := (B1.out.kept kn).cells2; have cz := (B1.out.kept kn).lt) | ((with_reducible refine (NU.out _ K1.out.drew).mono ?_); rintro e wn ⟨rfl, kn⟩; have KN := Lib.hid (K1.out.drew.trans kn); obtain ⟨c0, c1⟩ := (B1.out.drew.kept kn).cells2; have cz := (B1.out.drew.kept kn).lt) | ((with_reducible refine (NU.out _ K2.out).mono ?_); rintro e wn ⟨rfl, kn⟩; have KN := Lib.hid (K2.out.trans kn); obtain ⟨c0, c1⟩ := (B2.out.kept kn).cells2; have cz := (B2.out.kept kn).lt; obtain ⟨y0, y1, y2, y3, y4, y5⟩ := (A2.out.kept kn).cells6; have yf := (A2.out.kept kn).free; have yz := (A2.out.kept kn).lt) | ((with_reducible refine (NU.out _ K2.out.drew).mono ?_); rintro e wn ⟨rfl, kn⟩; have KN := Lib.hid (K2.out.drew.trans kn); obtain ⟨c0, c1⟩ := (B2.out.drew.kept kn).cells2; have cz := (B2.out.drew.kept kn).lt; obtain ⟨y0, y1, y2, y3, y4, y5⟩ := (A2.out.drew.kept kn).cells6; have yf := (A2.out.drew.kept kn).free; have yz := (A2.out.drew.kept kn).lt))))
  all_goals
    go_wp2_with fail
    (with_reducible refine (CA.out _ (HR.out.kept (by repeat (with_reducible first | exact KN.out | refine Kept.drew ?_ | refine Kept.alloc ?_ _ _ | refine Kept.set ?_ (by first | exact Nat.le_refl _ | exact Nat.le_succ _) _)))).mono ?_)
    rintro e w3 ⟨rfl, h3⟩
    have R3 := Lib.hid h3
    clear h3
    go_wp2_with fail
    go_ret
    exact ⟨rfl, R3.out⟩

end Go.Proofs.YtbgdeaeikijdgaaGreatDoor

namespace Go.Proofs.YtbgdeaeikijdgaaGreatDoor
open Go.RowKit Cx Px
set_option linter.unusedSimpArgs false
set_option linter.unusedVariables false

set_option maxRecDepth 100000 in
set_option maxHeartbeats 16000000 in
theorem step_none (wB : World) (pb sb : Nat) (P : Pen) (l : List Ob) (p : Option Addr) (cp : Nat) (nm : ByteArray) (w : World) (hR : PenR wB pb sb w P) (ho : OpL w l p) (h : ∀ s ∈ known, nm.data.toList ≠ s) :
    Calls Tryz.prog 28 #[.pointer (some ⟨pb, 0, none⟩), .agg #[.string nm, .slice p l.length cp]] w fun e w' => e = .returned (.int .i64 0) ∧ PenR wB pb sb w' P := by
  have OF := Lib.hid (fun w => ofN_none nm w h)
  have NU := Lib.hid (fun wx (k : Kept w wx) => show Calls Tryz.prog 35 #[.slice p l.length cp, .int .i64 0] wx (fun e w' => e = .returned (.tuple #[.agg #[.int .i64 0, .int .i64 0, .int .i64 0, .int .i64 0, .int .i64 0, .int .i64 0], .int .i64 0]) ∧ Kept wx w') from numbers_any l p cp [] wx (ho.kept k) (fun i hi => absurd hi (Nat.not_lt_zero _)) (by simp))
  have z0 : (nm.toList == [113]) = false := by have := h [113] (by decide); simpa [Lib.toList_data] using this
  have z1 : (nm.toList == [81]) = false := by have := h [81] (by decide); simpa [Lib.toList_data] using this
  have z2 : (nm.toList == [99, 109]) = false := by have := h [99, 109] (by decide); simpa [Lib.toList_data] using this
  have z3 : (nm.toList == [119]) = false := by have := h [119] (by decide); simpa [Lib.toList_data] using this
  have z4 : (nm.toList == [103]) = false := by have := h [103] (by decide); simpa [Lib.toList_data] using this
  have z5 : (nm.toList == [71]) = false := by have := h [71] (by decide); simpa [Lib.toList_data] using this
  have z6 : (nm.toList == [114, 103]) = false := by have := h [114, 103] (by decide); simpa [Lib.toList_data] using this
  have z7 : (nm.toList == [82, 71]) = false := by have := h [82, 71] (by decide); simpa [Lib.toList_data] using this
  have z8 : (nm.toList == [109]) = false := by have := h [109] (by decide); simpa [Lib.toList_data] using this
  have z9 : (nm.toList == [108]) = false := by have := h [108] (by decide); simpa [Lib.toList_data] using this
  have z10 : (nm.toList == [104]) = false := by have := h [104] (by decide); simpa [Lib.toList_data] using this
  have z11 : (nm.toList == [114, 101]) = false := by have := h [114, 101] (by decide); simpa [Lib.toList_data] using this
  have z12 : (nm.toList == [102]) = false := by have := h [102] (by decide); simpa [Lib.toList_data] using this
  have z13 : (nm.toList == [70]) = false := by have := h [70] (by decide); simpa [Lib.toList_data] using this
  have z14 : (nm.toList == [102, 42]) = false := by have := h [102, 42] (by decide); simpa [Lib.toList_data] using this
  have z15 : (nm.toList == [83]) = false := by have := h [83] (by decide); simpa [Lib.toList_data] using this
  have z16 : (nm.toList == [115]) = false := by have := h [115] (by decide); simpa [Lib.toList_data] using this
  have z17 : (nm.toList == [66]) = false := by have := h [66] (by decide); simpa [Lib.toList_data] using this
  have z18 : (nm.toList == [66, 42]) = false := by have := h [66, 42] (by decide); simpa [Lib.toList_data] using this
  have z19 : (nm.toList == [98]) = false := by have := h [98] (by decide); simpa [Lib.toList_data] using this
  have z20 : (nm.toList == [98, 42]) = false := by have := h [98, 42] (by decide); simpa [Lib.toList_data] using this
  have z21 : (nm.toList == [110]) = false := by have := h [110] (by decide); simpa [Lib.toList_data] using this
  have z22 : (nm.toList == [87]) = false := by have := h [87] (by decide); simpa [Lib.toList_data] using this
  have z23 : (nm.toList == [87, 42]) = false := by have := h [87, 42] (by decide); simpa [Lib.toList_data] using this
  have z24 : (nm.toList == [66, 84]) = false := by have := h [66, 84] (by decide); simpa [Lib.toList_data] using this
  have z25 : (nm.toList == [84, 109]) = false := by have := h [84, 109] (by decide); simpa [Lib.toList_data] using this
  have z26 : (nm.toList == [84, 100]) = false := by have := h [84, 100] (by decide); simpa [Lib.toList_data] using this
  have z27 : (nm.toList == [84, 68]) = false := by have := h [84, 68] (by decide); simpa [Lib.toList_data] using this
  have z28 : (nm.toList == [84, 76]) = false := by have := h [84, 76] (by decide); simpa [Lib.toList_data] using this
  have z29 : (nm.toList == [84, 42]) = false := by have := h [84, 42] (by decide); simpa [Lib.toList_data] using this
  have z30 : (nm.toList == [84, 102]) = false := by have := h [84, 102] (by decide); simpa [Lib.toList_data] using this
  have z31 : (nm.toList == [84, 106]) = false := by have := h [84, 106] (by decide); simpa [Lib.toList_data] using this
  have z32 : (nm.toList == [39]) = false := by have := h [39] (by decide); simpa [Lib.toList_data] using this
  have z33 : (nm.toList == [84, 74]) = false := by have := h [84, 74] (by decide); simpa [Lib.toList_data] using this
  have z34 : (nm.toList == [68, 111]) = false := by have := h [68, 111] (by decide); simpa [Lib.toList_data] using this
  have HR := Lib.hid hR
  have K1 := Lib.hid ((Kept.refl w).alloc #[.string nm, .slice p l.length cp] 53)
  have B1 := Lib.hid (Blk.fresh w #[.string nm, .slice p l.length cp] 53)
  have K2 := Lib.hid (K1.out.alloc #[.int .i64 0, .int .i64 0, .int .i64 0, .int .i64 0, .int .i64 0, .int .i64 0] 27)
  have B2 := Lib.hid (B1.out.alloc (.cells #[.int .i64 0, .int .i64 0, .int .i64 0, .int .i64 0, .int .i64 0, .int .i64 0] 27 (0, 0)))
  have A2 := Lib.hid (Blk.fresh' (w := w.alloc (.cells #[.string nm, .slice p l.length cp] 53 (0, 0))) (b := w.heap.size + 1) #[.int .i64 0, .int .i64 0, .int .i64 0, .int .i64 0, .int .i64 0, .int .i64 0] 27 (by simp))
  clear hR h ho
  go_enter Tryz.func28, Tryz.ntmps28
  go_wp2_with fail
  go_region_held3 (fun w' => w'.cell? ⟨w.heap.size, 0, none⟩ = some (.string nm) ∧ w'.cell? ⟨w.heap.size, 1, none⟩ = some (.slice p l.length cp)) (first | go_keep | exact ⟨c0, c1⟩)
    (first
      | (go_at_call 36; (with_reducible refine (OF.out _).mono ?_); rintro e wq ⟨rfl, rfl⟩)
      | (go_at_call 35; (first | ((with_reducible refine (NU.out _ K1.out).mono ?_); rintro e wn ⟨rfl, kn⟩; have KN := Lib.hid (K1.out.trans kn); obtain ⟨c0, c1⟩ := (B1.out.kept kn).cells2; have cz := (B1.out.kept kn).lt) | ((with_reducible refine (NU.out _ K1.out.drew).mono ?_); rintro e wn ⟨rfl, kn⟩; have KN := Lib.hid (K1.out.drew.trans kn); obtain ⟨c0, c1⟩ := (B1.out.drew.kept kn).cells2; have cz := (B1.out.drew.kept kn).lt) | ((with_reducible refine (NU.out _ K2.out).mono ?_); rintro e wn ⟨rfl, kn⟩; have KN := Lib.hid (K2.out.trans kn); obtain ⟨c0, c1⟩ := (B2.out.kept kn).cells2; have cz := (B2.out.kept kn).lt; obtain ⟨y0, y1, y2, y3, y4, y5⟩ := (A2.out.kept kn).cells6; have yf := (A2.out.kept kn).free; have yz := (A2.out.kept kn).lt) | ((with_reducible refine (NU.out _ K2.out.drew).mono ?_); rintro e wn ⟨rfl, kn⟩; have KN := Lib.hid (K2.out.drew.trans kn); obtain ⟨c0, c1⟩ := (B2.out.drew.kept kn).cells2; have cz := (B2.out.drew.kept kn).lt; obtain ⟨y0, y1, y2, y3, y4, y5⟩ := (A2.out.drew.kept kn).cells6; have yf := (A2.out.drew.kept kn).free; have yz := (A2.out.drew.kept kn).lt))))
  all_goals
    go_wp2_with fail
    go_ret
    exact ⟨rfl, HR.out.kept (by repeat (with_reducible first | exact KN.out | refine Kept.drew ?_ | refine Kept.alloc ?_ _ _ | refine Kept.set ?_ (by first | exact Nat.le_refl _ | exact Nat.le_succ _) _))⟩

end Go.Proofs.YtbgdeaeikijdgaaGreatDoor
