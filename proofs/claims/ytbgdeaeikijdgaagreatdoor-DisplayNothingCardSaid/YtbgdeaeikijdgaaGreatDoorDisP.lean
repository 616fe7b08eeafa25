/-
  A pen's small steps: shut, point, keep, back, add, told.
  What the operators w, g, G, rg and q do.
  A pen's path: box, and what operators of the path do.
  What the operators m, l and re do.
-/
import Derived.Test.YtbgdeaeikijdgaaGreatDoorDisM
import Derived.Test.YtbgdeaeikijdgaaGreatDoorGeoM
import Derived.Deep.LoopGhost
import Derived.Deep.RegionLaw
import Derived.Deep.RegionHeld3
import Derived.Test.YtbgdeaeikijdgaaGreatDoorFixW
namespace Go.Proofs.YtbgdeaeikijdgaaGreatDoor
open Go.RowKit Cx Px
set_option linter.unusedSimpArgs false
set_option linter.unusedVariables false

set_option maxRecDepth 100000 in
set_option maxHeartbeats 8000000 in
theorem shut_any (wB : World) (pb sb : Nat) (P : Pen) (w : World) (h : PenR wB pb sb w P) (hb : P.path.length ≤ 1099511627776) :
    Calls Tryz.prog 57 #[.pointer (some ⟨pb, 0, none⟩)] w fun e w' => e = .returned (.tuple #[]) ∧ PenR wB pb sb w' P.shut := by
  obtain ⟨kv, pv, iv, I, hI, hM⟩ := h
  have HI := Lib.hid hI
  obtain ⟨p, c, rfl, -, -⟩ := own_shape hM.hl
  have HM := Lib.hid hM
  obtain ⟨-, d17, -⟩ := hM.rest
  have rf := hM.hp.free
  have rz := hM.hp.lt
  obtain ⟨n, hn⟩ : ∃ n, n = P.path.length := ⟨_, rfl⟩
  have HN := Lib.hid hn
  rw [← hn] at d17 hb
  have HB := Lib.hid (Blk.fresh w (cells3 hPt).toArray 48)
  have HA := Lib.hid (hM.alloc (.cells (cells3 hPt).toArray 48 (0, 0)))
  rw [← hn] at HA
  clear hM hI hn
  go_enter Tryz.func57, Tryz.ntmps57
  go_wp2_with (at_builtin; refine wpList_app_pt (by rfl) _ _ (by rfl) HA.out (by rfl) hPt w.heap.size HB.out (by rfl) (by rw [← HN.out]; exact hb) ?_)
  intro g' cap w' hM hz
  have HM2 := Lib.hid hM
  have d17' := hM.hp.cell 17
  have rf' := hM.hp.free
  have rz' := hM.hp.lt
  simp only [penC] at d17'
  clear hM
  go_wp2_with fail
  refine bodyPost_end (results_none rfl _ _ _) rfl ⟨rfl, ?_⟩
  exact ⟨kv, _, iv, I, HI.out, (HM2.out.setP 17 _).cast rfl rfl⟩

set_option maxRecDepth 100000 in
set_option maxHeartbeats 8000000 in
theorem point_any (wB : World) (pb sb : Nat) (P : Pen) (op : ByteArray) (x y : Int) (w : World) (h : PenR wB pb sb w P) (he : P.st.m.appE x y = 0) (hb : P.path.length ≤ 1099511627776) :
    Calls Tryz.prog 56 #[.pointer (some ⟨pb, 0, none⟩), .string op, .int .i64 x, .int .i64 y] w fun e w' => e = .returned (.int .i64 0) ∧ PenR wB pb sb w' (P.point op x y) := by
  obtain ⟨kv, pv, iv, I, hI, hM⟩ := h
  have HI := Lib.hid hI
  obtain ⟨p, c, rfl, -, -⟩ := own_shape hM.hl
  have HM := Lib.hid hM
  obtain ⟨d0, d1, d2, d3, d4, d5, -⟩ := hM.st
  have AP := Lib.hid (fun w => Apply_any P.st.m.a P.st.m.b P.st.m.c P.st.m.d P.st.m.e P.st.m.f x y w)
  unfold Mx.appE at he
  rw [he] at AP
  obtain ⟨X, hX⟩ : ∃ X, X = Gm.appX P.st.m.a P.st.m.b P.st.m.c P.st.m.d P.st.m.e P.st.m.f x y := ⟨_, rfl⟩
  obtain ⟨Y, hY⟩ : ∃ Y, Y = Gm.appY P.st.m.a P.st.m.b P.st.m.c P.st.m.d P.st.m.e P.st.m.f x y := ⟨_, rfl⟩
  rw [← hX, ← hY] at AP
  have HP := Lib.hid (show P.st.m.app op x y = ⟨op, X, Y⟩ by unfold Mx.app; rw [hX, hY])
  obtain ⟨n, hn⟩ : ∃ n, n = P.path.length := ⟨_, rfl⟩
  have HN := Lib.hid hn
  clear hM hI hX hY he
  go_enter Tryz.func56, Tryz.ntmps56
  go_wp2_with fail
  (with_reducible refine (AP.out _).mono ?_)
  rintro e w1 ⟨rfl, k1⟩
  have HM1 := Lib.hid (HM.out.kept k1)
  obtain ⟨-, d17, -⟩ := HM1.out.rest
  rw [← hn] at d17 hb
  have rf := HM1.out.hp.free
  have rz := HM1.out.hp.lt
  have HB := Lib.hid (Blk.fresh w1 (cells3 ⟨op, X, Y⟩).toArray 48)
  have HA := Lib.hid (HM1.out.alloc (.cells (cells3 ⟨op, X, Y⟩).toArray 48 (0, 0)))
  rw [← hn] at HA
  clear hn k1 d0 d1 d2 d3 d4 d5
  go_wp2_with (at_builtin; refine wpList_app_pt (by rfl) _ _ (by rfl) HA.out (by rfl) ⟨op, X, Y⟩ w1.heap.size HB.out (by rfl) (by rw [← HN.out]; exact hb) ?_)
  intro g' cap w' hM hz
  have HM2 := Lib.hid hM
  have d17' := hM.hp.cell 17
  have rf' := hM.hp.free
  have rz' := hM.hp.lt
  simp only [penC] at d17'
  clear hM
  go_wp2_with fail
  go_ret
  exact ⟨rfl, kv, _, iv, I, HI.out, by unfold Pen.point; rw [HP.out]; exact (HM2.out.setP 17 _).cast rfl rfl⟩

set_option maxRecDepth 100000 in
set_option maxHeartbeats 8000000 in
theorem keep_any (wB : World) (pb sb : Nat) (P : Pen) (w : World) (h : PenR wB pb sb w P) (hb : P.kept.length < 64) :
    Calls Tryz.prog 53 #[.pointer (some ⟨pb, 0, none⟩)] w fun e w' => e = .returned (.int .i64 0) ∧ PenR wB pb sb w' { P with kept := P.kept ++ [P.st] } := by
  obtain ⟨kv, pv, iv, I, hI, hM⟩ := h
  have HI := Lib.hid hI
  obtain ⟨p, c, rfl, -, -⟩ := own_shape hM.hk
  have HM := Lib.hid hM
  obtain ⟨d0, d1, d2, d3, d4, d5, d6, d7, d8, d9, d10, d11, d12, d13, d14, d15⟩ := hM.st
  obtain ⟨d16, -⟩ := hM.rest
  have rf := hM.hp.free
  have rz := hM.hp.lt
  obtain ⟨n, hn⟩ : ∃ n, n = P.kept.length := ⟨_, rfl⟩
  have HN := Lib.hid hn
  rw [← hn] at d16 hb
  have n0 : ((n : Int) == 64) = false := by rw [beq_eq_false_iff_ne]; omega
  have HB := Lib.hid ((Blk.fresh w (cells16 P.st).toArray 72).drew)
  have HA := Lib.hid ((hM.alloc (.cells (cells16 P.st).toArray 72 (0, 0))).drew)
  rw [← hn] at HA
  clear hM hI hn
  go_enter Tryz.func53, Tryz.ntmps53
  go_wp2_with fail
  go_region_law ((refine step_app_st (by rfl) _ _ (by rfl) HA.out (by rfl) P.st w.heap.size HB.out (by rfl) (by rw [← HN.out]; omega) ?_; intro g' cap w' hM hz; have HM2 := Lib.hid hM; obtain ⟨d16, -⟩ := hM.rest; have rf' := hM.hp.free; have rz' := hM.hp.lt; clear hM))
  all_goals
    go_wp2_with fail
    go_ret
    exact ⟨rfl, _, pv, iv, I, HI.out, by repeat (with_reducible first | exact (HM2.out.setP 16 _).cast rfl rfl | refine PenM.drew ?_)⟩

end Go.Proofs.YtbgdeaeikijdgaaGreatDoor

namespace Go.Proofs.YtbgdeaeikijdgaaGreatDoor
open Go.RowKit Cx Px
set_option linter.unusedSimpArgs false
set_option linter.unusedVariables false

set_option maxRecDepth 100000 in
set_option maxHeartbeats 8000000 in
theorem change_w (wB : World) (pb sb : Nat) (P : Pen) (a b c d e f : Int) (w : World) (h : PenR wB pb sb w P) :
    Calls Tryz.prog 37 #[.pointer (some ⟨pb, 0, none⟩), .string ⟨#[119]⟩, .agg #[.int .i64 a, .int .i64 b, .int .i64 c, .int .i64 d, .int .i64 e, .int .i64 f]] w fun e w' => e = .returned (.int .i64 0) ∧ PenR wB pb sb w' (P.setSt { P.st with w := a }) := by
  obtain ⟨nm, hn⟩ : ∃ nm : ByteArray, nm = ⟨#[119]⟩ := ⟨_, rfl⟩
  rw [← hn]
  have z0 : (nm.toList == [113]) = false := by rw [hn]; kernel_rfl
  have z1 : (nm.toList == [81]) = false := by rw [hn]; kernel_rfl
  have z2 : (nm.toList == [99, 109]) = false := by rw [hn]; kernel_rfl
  have z3 : (nm.toList == [119]) = true := by rw [hn]; kernel_rfl
  obtain ⟨kv, pv, iv, I, hI, hM⟩ := h
  have HI := Lib.hid hI
  have HM0 := Lib.hid hM
  obtain ⟨d0, d1, d2, d3, d4, d5, d6, d7, d8, d9, d10, d11, d12, -⟩ := hM.st
  have rf := hM.hp.free
  have rz := hM.hp.lt
  clear hn hM hI
  go_enter Tryz.func37, Tryz.ntmps37
  go_wp2_with fail
  go_ret
  exact ⟨rfl, kv, pv, iv, I, HI.out, ((HM0.out.setP 12 (.int .i64 a)).alloc _).cast rfl rfl⟩

set_option maxRecDepth 100000 in
set_option maxHeartbeats 8000000 in
theorem change_g (wB : World) (pb sb : Nat) (P : Pen) (a b c d e f : Int) (w : World) (h : PenR wB pb sb w P) :
    Calls Tryz.prog 37 #[.pointer (some ⟨pb, 0, none⟩), .string ⟨#[103]⟩, .agg #[.int .i64 a, .int .i64 b, .int .i64 c, .int .i64 d, .int .i64 e, .int .i64 f]] w fun e w' => e = .returned (.int .i64 0) ∧ PenR wB pb sb w' (P.setSt { P.st with c := ⟨a, a, a⟩ }) := by
  obtain ⟨nm, hn⟩ : ∃ nm : ByteArray, nm = ⟨#[103]⟩ := ⟨_, rfl⟩
  rw [← hn]
  have z0 : (nm.toList == [113]) = false := by rw [hn]; kernel_rfl
  have z1 : (nm.toList == [81]) = false := by rw [hn]; kernel_rfl
  have z2 : (nm.toList == [99, 109]) = false := by rw [hn]; kernel_rfl
  have z3 : (nm.toList == [119]) = false := by rw [hn]; kernel_rfl
  have z4 : (nm.toList == [103]) = true := by rw [hn]; kernel_rfl
  obtain ⟨kv, pv, iv, I, hI, hM⟩ := h
  have HI := Lib.hid hI
  have HM0 := Lib.hid hM
  obtain ⟨d0, d1, d2, d3, d4, d5, d6, d7, d8, d9, d10, d11, d12, -⟩ := hM.st
  have rf := hM.hp.free
  have rz := hM.hp.lt
  clear hn hM hI
  go_enter Tryz.func37, Tryz.ntmps37
  go_wp2_with fail
  go_ret
  exact ⟨rfl, kv, pv, iv, I, HI.out, ((((HM0.out.setP 6 (.int .i64 a)).setP 7 (.int .i64 a)).setP 8 (.int .i64 a)).alloc _).cast rfl rfl⟩

set_option maxRecDepth 100000 in
set_option maxHeartbeats 8000000 in
theorem change_bigG (wB : World) (pb sb : Nat) (P : Pen) (a b c d e f : Int) (w : World) (h : PenR wB pb sb w P) :
    Calls Tryz.prog 37 #[.pointer (some ⟨pb, 0, none⟩), .string ⟨#[71]⟩, .agg #[.int .i64 a, .int .i64 b, .int .i64 c, .int .i64 d, .int .i64 e, .int .i64 f]] w fun e w' => e = .returned (.int .i64 0) ∧ PenR wB pb sb w' (P.setSt { P.st with d := ⟨a, a, a⟩ }) := by
  obtain ⟨nm, hn⟩ : ∃ nm : ByteArray, nm = ⟨#[71]⟩ := ⟨_, rfl⟩
  rw [← hn]
  have z0 : (nm.toList == [113]) = false := by rw [hn]; kernel_rfl
  have z1 : (nm.toList == [81]) = false := by rw [hn]; kernel_rfl
  have z2 : (nm.toList == [99, 109]) = false := by rw [hn]; kernel_rfl
  have z3 : (nm.toList == [119]) = false := by rw [hn]; kernel_rfl
  have z4 : (nm.toList == [103]) = false := by rw [hn]; kernel_rfl
  have z5 : (nm.toList == [71]) = true := by rw [hn]; kernel_rfl
  obtain ⟨kv, pv, iv, I, hI, hM⟩ := h
  have HI := Lib.hid hI
  have HM0 := Lib.hid hM
  obtain ⟨d0, d1, d2, d3, d4, d5, d6, d7, d8, d9, d10, d11, d12, -⟩ := hM.st
  have rf := hM.hp.free
  have rz := hM.hp.lt
  clear hn hM hI
  go_enter Tryz.func37, Tryz.ntmps37
  go_wp2_with fail
  go_ret
  exact ⟨rfl, kv, pv, iv, I, HI.out, ((((HM0.out.setP 9 (.int .i64 a)).setP 10 (.int .i64 a)).setP 11 (.int .i64 a)).alloc _).cast rfl rfl⟩

set_option maxRecDepth 100000 in
set_option maxHeartbeats 8000000 in
theorem change_rg (wB : World) (pb sb : Nat) (P : Pen) (a b c d e f : Int) (w : World) (h : PenR wB pb sb w P) :
    Calls Tryz.prog 37 #[.pointer (some ⟨pb, 0, none⟩), .string ⟨#[114, 103]⟩, .agg #[.int .i64 a, .int .i64 b, .int .i64 c, .int .i64 d, .int .i64 e, .int .i64 f]] w fun e w' => e = .returned (.int .i64 0) ∧ PenR wB pb sb w' (P.setSt { P.st with c := ⟨a, b, c⟩ }) := by
  obtain ⟨nm, hn⟩ : ∃ nm : ByteArray, nm = ⟨#[114, 103]⟩ := ⟨_, rfl⟩
  rw [← hn]
  have z0 : (nm.toList == [113]) = false := by rw [hn]; kernel_rfl
  have z1 : (nm.toList == [81]) = false := by rw [hn]; kernel_rfl
  have z2 : (nm.toList == [99, 109]) = false := by rw [hn]; kernel_rfl
  have z3 : (nm.toList == [119]) = false := by rw [hn]; kernel_rfl
  have z4 : (nm.toList == [103]) = false := by rw [hn]; kernel_rfl
  have z5 : (nm.toList == [71]) = false := by rw [hn]; kernel_rfl
  have z6 : (nm.toList == [114, 103]) = true := by rw [hn]; kernel_rfl
  obtain ⟨kv, pv, iv, I, hI, hM⟩ := h
  have HI := Lib.hid hI
  have HM0 := Lib.hid hM
  obtain ⟨d0, d1, d2, d3, d4, d5, d6, d7, d8, d9, d10, d11, d12, -⟩ := hM.st
  have rf := hM.hp.free
  have rz := hM.hp.lt
  clear hn hM hI
  go_enter Tryz.func37, Tryz.ntmps37
  go_wp2_with fail
  go_ret
  exact ⟨rfl, kv, pv, iv, I, HI.out, ((((HM0.out.setP 6 (.int .i64 a)).setP 7 (.int .i64 b)).setP 8 (.int .i64 c)).alloc _).cast rfl rfl⟩

set_option maxRecDepth 100000 in
set_option maxHeartbeats 8000000 in
theorem change_q (wB : World) (pb sb : Nat) (P : Pen) (a b c d e f : Int) (w : World) (h : PenR wB pb sb w P) (hb : P.kept.length < 64) :
    Calls Tryz.prog 37 #[.pointer (some ⟨pb, 0, none⟩), .string ⟨#[113]⟩, .agg #[.int .i64 a, .int .i64 b, .int .i64 c, .int .i64 d, .int .i64 e, .int .i64 f]] w fun e w' => e = .returned (.int .i64 0) ∧ PenR wB pb sb w' { P with kept := P.kept ++ [P.st] } := by
  obtain ⟨nm, hn⟩ : ∃ nm : ByteArray, nm = ⟨#[113]⟩ := ⟨_, rfl⟩
  rw [← hn]
  have z0 : (nm.toList == [113]) = true := by rw [hn]; kernel_rfl
  have HR := Lib.hid (h.kept ((Kept.refl w).alloc #[.int .i64 a, .int .i64 b, .int .i64 c, .int .i64 d, .int .i64 e, .int .i64 f] 27))
  have PT := Lib.hid (fun w' (k : PenR wB pb sb w' P) => keep_any wB pb sb P w' k hb)
  clear hn h
  go_enter Tryz.func37, Tryz.ntmps37
  go_wp2_with fail
  (with_reducible refine (PT.out _ HR.out).mono ?_)
  rintro e w1 ⟨rfl, h1⟩
  have R1 := Lib.hid h1
  clear h1
  go_wp2_with fail
  go_ret
  exact ⟨rfl, R1.out⟩

end Go.Proofs.YtbgdeaeikijdgaaGreatDoor

namespace Go.Proofs.YtbgdeaeikijdgaaGreatDoor
open Go.RowKit Cx Px
set_option linter.unusedSimpArgs false
set_option linter.unusedVariables false

def boxed (P : Pen) (x0 y0 x1 y1 : Int) : Pen := ((((P.point mOp x0 y0).point lOp x1 y0).point lOp x1 y1).point lOp x0 y1).shut
set_option maxRecDepth 100000 in
set_option maxHeartbeats 16000000 in
theorem box_any (wB : World) (pb sb : Nat) (P : Pen) (x0 y0 x1 y1 : Int) (w : World) (h : PenR wB pb sb w P) (a1 : P.st.m.appE x0 y0 = 0) (a2 : P.st.m.appE x1 y0 = 0) (a3 : P.st.m.appE x1 y1 = 0) (a4 : P.st.m.appE x0 y1 = 0) (hb : P.path.length ≤ 549755813888) :
    Calls Tryz.prog 59 #[.pointer (some ⟨pb, 0, none⟩), .agg #[.int .i64 x0, .int .i64 y0, .int .i64 x1, .int .i64 y1]] w fun e w' => e = .returned (.int .i64 0) ∧ PenR wB pb sb w' (boxed P x0 y0 x1 y1) := by
  have HR := Lib.hid h
  have len : ∀ (Q : Pen) o x y, (Q.point o x y).path.length = Q.path.length + 1 := fun Q o x y => by unfold Pen.point; simp
  have Q1 := Lib.hid (fun w' (k : PenR wB pb sb w' P) => show Calls Tryz.prog 56 #[.pointer (some ⟨pb, 0, none⟩), .string ⟨#[109]⟩, .int .i64 x0, .int .i64 y0] w' _ from point_any wB pb sb P mOp x0 y0 w' k a1 (by omega))
  have Q2 := Lib.hid (fun w' (k : PenR wB pb sb w' (P.point mOp x0 y0)) => show Calls Tryz.prog 56 #[.pointer (some ⟨pb, 0, none⟩), .string ⟨#[108]⟩, .int .i64 x1, .int .i64 y0] w' _ from point_any wB pb sb _ lOp x1 y0 w' k a2 (by rw [len]; omega))
  have Q3 := Lib.hid (fun w' (k : PenR wB pb sb w' ((P.point mOp x0 y0).point lOp x1 y0)) => show Calls Tryz.prog 56 #[.pointer (some ⟨pb, 0, none⟩), .string ⟨#[108]⟩, .int .i64 x1, .int .i64 y1] w' _ from point_any wB pb sb _ lOp x1 y1 w' k a3 (by rw [len, len]; omega))
  have Q4 := Lib.hid (fun w' (k : PenR wB pb sb w' (((P.point mOp x0 y0).point lOp x1 y0).point lOp x1 y1)) => show Calls Tryz.prog 56 #[.pointer (some ⟨pb, 0, none⟩), .string ⟨#[108]⟩, .int .i64 x0, .int .i64 y1] w' _ from point_any wB pb sb _ lOp x0 y1 w' k a4 (by rw [len, len, len]; omega))
  have Q5 := Lib.hid (fun w' (k : PenR wB pb sb w' ((((P.point mOp x0 y0).point lOp x1 y0).point lOp x1 y1).point lOp x0 y1)) => shut_any wB pb sb _ w' k (by rw [len, len, len, len]; omega))
  clear h a1 a2 a3 a4 len
  have HR0 := Lib.hid (HR.out.kept ((Kept.refl w).alloc #[.int .i64 x0, .int .i64 y0, .int .i64 x1, .int .i64 y1] 132))
  have i0 : ∀ w, (Instr.index 156 (.agg #[.string ⟨#[109]⟩, .int .i64 x0, .int .i64 y0, .string ⟨#[108]⟩, .int .i64 x1, .int .i64 y0, .string ⟨#[108]⟩, .int .i64 x1, .int .i64 y1, .string ⟨#[108]⟩, .int .i64 x0, .int .i64 y1]) (.int .i64 0)).run Tryz.prog w = .ok (.agg #[.string ⟨#[109]⟩, .int .i64 x0, .int .i64 y0]) w := fun _ => by kernel_rfl
  have i1 : ∀ w, (Instr.index 156 (.agg #[.string ⟨#[109]⟩, .int .i64 x0, .int .i64 y0, .string ⟨#[108]⟩, .int .i64 x1, .int .i64 y0, .string ⟨#[108]⟩, .int .i64 x1, .int .i64 y1, .string ⟨#[108]⟩, .int .i64 x0, .int .i64 y1]) (.int .i64 1)).run Tryz.prog w = .ok (.agg #[.string ⟨#[108]⟩, .int .i64 x1, .int .i64 y0]) w := fun _ => by kernel_rfl
  have i2 : ∀ w, (Instr.index 156 (.agg #[.string ⟨#[109]⟩, .int .i64 x0, .int .i64 y0, .string ⟨#[108]⟩, .int .i64 x1, .int .i64 y0, .string ⟨#[108]⟩, .int .i64 x1, .int .i64 y1, .string ⟨#[108]⟩, .int .i64 x0, .int .i64 y1]) (.int .i64 2)).run Tryz.prog w = .ok (.agg #[.string ⟨#[108]⟩, .int .i64 x1, .int .i64 y1]) w := fun _ => by kernel_rfl
  have i3 : ∀ w, (Instr.index 156 (.agg #[.string ⟨#[109]⟩, .int .i64 x0, .int .i64 y0, .string ⟨#[108]⟩, .int .i64 x1, .int .i64 y0, .string ⟨#[108]⟩, .int .i64 x1, .int .i64 y1, .string ⟨#[108]⟩, .int .i64 x0, .int .i64 y1]) (.int .i64 3)).run Tryz.prog w = .ok (.agg #[.string ⟨#[108]⟩, .int .i64 x0, .int .i64 y1]) w := fun _ => by kernel_rfl
  go_enter Tryz.func59, Tryz.ntmps59
  go_wp2_with fail
  refine wp_loop_rounds 5 ?_
  rw [rounds_succ]
  go_wp2_with fail
  (with_reducible refine (Q1.out _ (HR0.out.kept ((Kept.refl _).alloc _ _))).mono ?_)
  rintro e w1 ⟨rfl, h1⟩
  have R1 := Lib.hid h1
  clear h1
  go_wp2_with fail
  rw [rounds_succ]
  go_wp2_with fail
  (with_reducible refine (Q2.out _ (R1.out.kept ((Kept.refl _).alloc _ _))).mono ?_)
  rintro e w2 ⟨rfl, h2⟩
  have R2 := Lib.hid h2
  clear h2
  go_wp2_with fail
  rw [rounds_succ]
  go_wp2_with fail
  (with_reducible refine (Q3.out _ (R2.out.kept ((Kept.refl _).alloc _ _))).mono ?_)
  rintro e w3 ⟨rfl, h3⟩
  have R3 := Lib.hid h3
  clear h3
  go_wp2_with fail
  rw [rounds_succ]
  go_wp2_with fail
  (with_reducible refine (Q4.out _ (R3.out.kept ((Kept.refl _).alloc _ _))).mono ?_)
  rintro e w4 ⟨rfl, h4⟩
  have R4 := Lib.hid h4
  clear h4
  go_wp2_with fail
  rw [rounds_succ]
  go_wp2_with fail
  (with_reducible refine (Q5.out _ R4.out).mono ?_)
  rintro e w5 ⟨rfl, h5⟩
  have R5 := Lib.hid h5
  clear h5
  go_wp2_with fail
  go_ret
  exact ⟨rfl, R5.out⟩

end Go.Proofs.YtbgdeaeikijdgaaGreatDoor

namespace Go.Proofs.YtbgdeaeikijdgaaGreatDoor
open Go.RowKit Cx Px
set_option linter.unusedSimpArgs false
set_option linter.unusedVariables false

/-- Six numbers as a value. -/
abbrev six (a b c d e f : Int) : Value := .agg #[.int .i64 a, .int .i64 b, .int .i64 c, .int .i64 d, .int .i64 e, .int .i64 f]

set_option maxRecDepth 100000 in
set_option maxHeartbeats 8000000 in
theorem trace_m (wB : World) (pb sb : Nat) (P : Pen) (a b c d e f : Int) (w : World) (h : PenR wB pb sb w P) (he : P.st.m.appE a b = 0) (hb : P.path.length ≤ 549755813888) :
    Calls Tryz.prog 38 #[.pointer (some ⟨pb, 0, none⟩), .string ⟨#[109]⟩, six a b c d e f] w fun e w' => e = .returned (.int .i64 0) ∧ PenR wB pb sb w' (P.point ⟨#[109]⟩ a b) := by
  obtain ⟨nm, hn⟩ : ∃ nm : ByteArray, nm = ⟨#[109]⟩ := ⟨_, rfl⟩
  rw [← hn]
  have z0 : (nm.toList == [109]) = true := by rw [hn]; kernel_rfl
  have HR := Lib.hid (h.kept ((Kept.refl w).alloc #[.int .i64 a, .int .i64 b, .int .i64 c, .int .i64 d, .int .i64 e, .int .i64 f] 27))
  have PT := Lib.hid (fun w' (k : PenR wB pb sb w' P) => point_any wB pb sb P nm a b w' k he (by omega))
  clear hn h he
  go_enter Tryz.func38, Tryz.ntmps38
  go_wp2_with fail
  (with_reducible refine (PT.out _ HR.out).mono ?_)
  rintro e w1 ⟨rfl, h1⟩
  have R1 := Lib.hid h1
  clear h1
  go_wp2_with fail
  go_ret
  exact ⟨rfl, R1.out⟩

set_option maxRecDepth 100000 in
set_option maxHeartbeats 8000000 in
theorem trace_l (wB : World) (pb sb : Nat) (P : Pen) (a b c d e f : Int) (w : World) (h : PenR wB pb sb w P) (he : P.st.m.appE a b = 0) (hb : P.path.length ≤ 549755813888) :
    Calls Tryz.prog 38 #[.pointer (some ⟨pb, 0, none⟩), .string ⟨#[108]⟩, six a b c d e f] w fun e w' => e = .returned (.int .i64 0) ∧ PenR wB pb sb w' (P.point ⟨#[108]⟩ a b) := by
  obtain ⟨nm, hn⟩ : ∃ nm : ByteArray, nm = ⟨#[108]⟩ := ⟨_, rfl⟩
  rw [← hn]
  have z0 : (nm.toList == [109]) = false := by rw [hn]; kernel_rfl
  have z1 : (nm.toList == [108]) = true := by rw [hn]; kernel_rfl
  have HR := Lib.hid (h.kept ((Kept.refl w).alloc #[.int .i64 a, .int .i64 b, .int .i64 c, .int .i64 d, .int .i64 e, .int .i64 f] 27))
  have PT := Lib.hid (fun w' (k : PenR wB pb sb w' P) => point_any wB pb sb P nm a b w' k he (by omega))
  clear hn h he
  go_enter Tryz.func38, Tryz.ntmps38
  go_wp2_with fail
  (with_reducible refine (PT.out _ HR.out).mono ?_)
  rintro e w1 ⟨rfl, h1⟩
  have R1 := Lib.hid h1
  clear h1
  go_wp2_with fail
  go_ret
  exact ⟨rfl, R1.out⟩

set_option maxRecDepth 100000 in
set_option maxHeartbeats 8000000 in
theorem trace_re (wB : World) (pb sb : Nat) (P : Pen) (x y u v e f : Int) (w : World) (h : PenR wB pb sb w P) (e1 : Fx.addE x u = 0) (e2 : Fx.addE y v = 0) (a1 : P.st.m.appE x y = 0) (a2 : P.st.m.appE (Fx.addV x u) y = 0) (a3 : P.st.m.appE (Fx.addV x u) (Fx.addV y v) = 0) (a4 : P.st.m.appE x (Fx.addV y v) = 0) (hb : P.path.length ≤ 274877906944) :
    Calls Tryz.prog 38 #[.pointer (some ⟨pb, 0, none⟩), .string ⟨#[114, 101]⟩, six x y u v e f] w fun e w' => e = .returned (.int .i64 0) ∧ PenR wB pb sb w' (boxed P x y (Fx.addV x u) (Fx.addV y v)) := by
  obtain ⟨nm, hn⟩ : ∃ nm : ByteArray, nm = ⟨#[114, 101]⟩ := ⟨_, rfl⟩
  rw [← hn]
  have z0 : (nm.toList == [109]) = false := by rw [hn]; kernel_rfl
  have z1 : (nm.toList == [108]) = false := by rw [hn]; kernel_rfl
  have z2 : (nm.toList == [104]) = false := by rw [hn]; kernel_rfl
  have z3 : (nm.toList == [114, 101]) = true := by rw [hn]; kernel_rfl
  have KA := Lib.hid ((Kept.refl w).alloc #[.int .i64 x, .int .i64 y, .int .i64 u, .int .i64 v, .int .i64 e, .int .i64 f] 27)
  have BA := Lib.hid (Blk.fresh w #[.int .i64 x, .int .i64 y, .int .i64 u, .int .i64 v, .int .i64 e, .int .i64 f] 27)
  have HR := Lib.hid h
  have BX := Lib.hid (fun w' (k : PenR wB pb sb w' P) => box_any wB pb sb P x y (Fx.addV x u) (Fx.addV y v) w' k a1 a2 a3 a4 (by omega))
  have A1 := Lib.hid (fun w => Add_any x u w)
  have A2 := Lib.hid (fun w => Add_any y v w)
  rw [e1] at A1
  rw [e2] at A2
  obtain ⟨X, hX⟩ : ∃ X, X = Fx.addV x u := ⟨_, rfl⟩
  obtain ⟨Y, hY⟩ : ∃ Y, Y = Fx.addV y v := ⟨_, rfl⟩
  rw [← hX] at A1 BX ⊢
  rw [← hY] at A2 BX ⊢
  clear hn h e1 e2 a1 a2 a3 a4 hX hY
  go_enter Tryz.func38, Tryz.ntmps38
  go_wp2_with fail
  (with_reducible refine (A1.out _).mono ?_)
  rintro e w1 ⟨rfl, k1⟩
  have K1 := Lib.hid (KA.out.trans k1)
  have B1 := Lib.hid (BA.out.kept k1)
  obtain ⟨b0, b1, b2, b3, b4, b5⟩ := B1.out.cells6
  clear k1
  go_wp2_with fail
  (with_reducible refine (A2.out _).mono ?_)
  rintro e w2 ⟨rfl, k2⟩
  have K2 := Lib.hid (K1.out.trans k2)
  have B2 := Lib.hid (B1.out.kept k2)
  obtain ⟨c0, c1, c2, c3, c4, c5⟩ := B2.out.cells6
  clear k2
  go_wp2_with fail
  (with_reducible refine (BX.out _ (HR.out.kept K2.out)).mono ?_)
  rintro e w3 ⟨rfl, h3⟩
  have R3 := Lib.hid h3
  clear h3
  go_wp2_with fail
  go_ret
  exact ⟨rfl, R3.out⟩

end Go.Proofs.YtbgdeaeikijdgaaGreatDoor
