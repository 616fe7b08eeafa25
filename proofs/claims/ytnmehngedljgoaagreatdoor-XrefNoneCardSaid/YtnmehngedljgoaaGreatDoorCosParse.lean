/-
  What package cos's Parse answers, at every text and place, if settled answers as it should.
-/
import Derived.Test.YtnmehngedljgoaaGreatDoorCosObjOf
namespace Go.Proofs.YtnmehngedljgoaaGreatDoor
open Go.RowKit Cx

theorem objOf_err (F : Nat) (l : List UInt8) (dep : Nat) (t : Lx.Tok) (h : (objOf F l dep t).1 ≠ 0) : (objOf F l dep t).2 = (nul, 0) := by
  cases F with
  | zero => rw [objOf]
  | succ F =>
    rw [objOf_eq] at h ⊢
    unfold arrV dictV wordV at *
    repeat' split
    all_goals first | rfl | (exfalso; revert h; simp_all)

theorem parse_eq (l : List UInt8) (a : Int) : parse l a = objAt (3 * l.length + 2) l 0 a := by
  unfold parse objAt; rfl
theorem parse_err (l : List UInt8) (a : Int) (h : (parse l a).1 ≠ 0) : (parse l a).2 = (nul, 0) := by
  rw [parse_eq, objAt] at h ⊢
  split
  · rfl
  · next he => rw [if_neg he] at h; exact objOf_err _ _ _ _ h

set_option maxRecDepth 100000 in
set_option maxHeartbeats 4000000 in
theorem cosParse_any (HSET : SetC) (s : ByteArray) (a : Int) (w : World) (hs : s.size ≤ 4294967295) (hm : HasMax w) (X : Int × Ob × Nat) (hX : X = parse s.data.toList a) :
    Calls Tryz.prog 14 #[.string s, .int .i64 a] w fun e w' => ∃ h, e = .returned (.tuple #[objV X.2.1 h, .int .i64 X.2.2, .int .i64 X.1]) ∧ Kept w w' ∧ Lies (Cel (fun b => w.heap.size ≤ b) w') X.2.1 h := by
  have HM := Lib.hid hm
  have hl : s.data.toList.length = s.size := by simp
  have HXO := Lib.hid (show X = objAt (3 * s.data.toList.length + 2) s.data.toList 0 a by rw [hX, parse_eq])
  have HXE := Lib.hid (fun h : X.1 ≠ 0 => show X.2 = (nul, 0) by rw [hX] at h ⊢; exact parse_err _ _ h)
  have K1 := Lib.hid (((Kept.refl w).alloc nul6 26).alloc #[.string s, .int .i64 a, .int .i64 0] 66)
  have R1 := Lib.hid (show Rst s a ((0 : Nat) : Int) (w.heap.size + 1) ((w.alloc (.cells nul6 26)).alloc (.cells #[.string s, .int .i64 a, .int .i64 0] 66)) from Blk.fresh' _ _ (by simp))
  have B1 := Lib.hid ((Blk.fresh w nul6 26).alloc (.cells #[.string s, .int .i64 a, .int .i64 0] 66))
  have CO := Lib.hid (object_any (3 * s.data.toList.length + 2) (objC_any HSET _) s a 0 (w.heap.size + 1) _ hs (HM.out.kept K1.out) R1.out (fun _ => by rw [hl]; omega) (by omega) X HXO.out)
  have hlt1 := R1.out.lt
  clear hm hX hl HSET
  obtain ⟨xe, xo, xk⟩ := X
  simp only [] at HXE
  go_enter Tryz.func14, Tryz.ntmps14
  go_wp2_with fail
  (with_reducible refine CO.out.mono ?_)
  rintro e w2 ⟨h, rfl, hr2, hg2, hx2⟩
  obtain ⟨SZ, hSZ⟩ : ∃ SZ, SZ = ((w.alloc (.cells nul6 26)).alloc (.cells #[.string s, .int .i64 a, .int .i64 0] 66)).heap.size := ⟨_, rfl⟩
  rw [← hSZ] at hx2 hlt1
  have X2 := Lib.hid hx2
  have NK := Lib.hid (show ∀ b, SZ ≤ b → b ≠ w.heap.size from fun b hb => by omega)
  have NW := Lib.hid (show ∀ b, SZ ≤ b → w.heap.size ≤ b from fun b hb => by omega)
  have K2 := Lib.hid (show Kept w w2 from ⟨hg2.os.trans K1.out.os, hg2.tape.trans K1.out.tape, hg2.output.trans K1.out.output, Nat.le_trans K1.out.size hg2.size, fun j hj => (hg2.block j (by simp; omega) (by simp; omega)).trans (K1.out.block j hj)⟩)
  have B2 := Lib.hid (B1.out.gb hg2 (by simp))
  have R2 := Lib.hid hr2
  clear hSZ hlt1 hr2 hg2 hx2
  obtain ⟨u0, u1, u2, u3, u4, u5⟩ := B2.out.cells6
  have uf := B2.out.free
  have uz := B2.out.lt
  unfold objV
  simp only []
  by_cases hx : xe = 0
  · subst hx
    have R3 := Lib.hid (R2.out (by trivial))
    obtain ⟨c0, c1, c2⟩ := R3.out.cells
    have rz := R3.out.lt
    go_wp2_with fail
    go_region_with (fail)
    all_goals
      go_wp2_with fail
      refine bodyPost_ret (v := .tuple #[.agg #[.int .i64 xo.k, .int .i64 xo.n, .int .i64 xo.f, .string xo.s, .slice h.p xo.l.length h.c, .slice h.q xo.d.length h.e], .int .i64 xk, .int .i64 0]) ?_ rfl ⟨h, rfl, ?_, ?_⟩
      · simp [results, Tryz.results14, go_sem, u0, u1, u2, u3, u4, u5, uz]
      · repeat (with_reducible first | exact K2.out | refine Kept.drew ?_ | refine Kept.drewN ?_ _ | refine Kept.alloc ?_ _ _ | refine Kept.set ?_ (Nat.le_refl _) _)
      · refine Lies.weak (P := fun b => SZ ≤ b) ?_ NW.out
        repeat (with_reducible first | exact X2.out | refine Lies.drew ?_ | refine Lies.set ?_ NK.out _ | refine Lies.alloc ?_ _)
  · have HXX := Lib.hid (HXE.out hx)
    have hne : (xe != 0) = true := by simpa using hx
    have he' := Lib.hid hx
    have ho : xo = nul := congrArg Prod.fst HXX.out
    have hk : xk = 0 := congrArg Prod.snd HXX.out
    clear hx
    subst ho hk
    go_wp2_with fail
    refine bodyPost_ret (v := .tuple #[.agg nul6, .int .i64 0, .int .i64 xe]) ?_ rfl ⟨Hd.none, rfl, ?_, Lies.flat _ _ _ _ _ _ (Nat.zero_le _)⟩
    · simp [results, Tryz.results14, go_sem, u0, u1, u2, u3, u4, u5, uz]
    · repeat (with_reducible first | exact K2.out | refine Kept.drew ?_ | refine Kept.alloc ?_ _ _ | refine Kept.set ?_ (Nat.le_refl _) _)

end Go.Proofs.YtnmehngedljgoaaGreatDoor
