/-
  What the rest's object and entryOf answer, if objectOf answers as it should.
-/
import Derived.Test.YtnmehngedljgoaaGreatDoorCosUpE
namespace Go.Proofs.YtnmehngedljgoaaGreatDoor
open Go.RowKit Cx

/-- The object behind a place, at a fuel. -/
def objAt (F : Nat) (l : List UInt8) (dep : Nat) (a : Int) : Int × Ob × Nat := if (Lx.nextV l a).1 ≠ 0 then ((Lx.nextV l a).1, nul, 0) else objOf F l dep (Lx.nextV l a).2

theorem objPost_bad {s : ByteArray} {dep rb : Nat} {w w' : World} {er : Int} {X : Int × Ob × Nat} (hX : X = (er, nul, 0)) (he : er ≠ 0) (g : w.grownBy w' (some rb)) :
    ObjPost s dep rb w X (.returned (.tuple #[.agg #[.int .i64 0, .int .i64 0, .int .i64 0, .string ⟨#[]⟩, .slice none 0 0, .slice none 0 0], .int .i64 er])) w' :=
  ⟨Hd.none, by rw [hX]; rfl, fun h => absurd (by rw [hX] at h; exact h) he, g, by rw [hX]; exact Lies.flat _ _ _ _ _ _ (Nat.zero_le _)⟩
theorem objPost_good {s : ByteArray} {dep rb : Nat} {w w' : World} {o : Ob} {k : Nat} {h : Hd} {X : Int × Ob × Nat} (hX : X = (0, o, k)) (r : Rst s (k : Int) (dep : Int) rb w') (g : w.grownBy w' (some rb)) (hl : Lies (Cel (fun b => w.heap.size ≤ b) w') o h) :
    ObjPost s dep rb w X (.returned (.tuple #[objV o h, .int .i64 0])) w' :=
  ⟨h, by rw [hX], fun _ => by rw [hX]; exact r, g, by rw [hX]; exact hl⟩

theorem Lies.set {P : Nat → Prop} {w : World} {o : Ob} {h : Hd} {k of : Nat} (hl : Lies (Cel P w) o h) (hk : ∀ b, P b → b ≠ k) (v : Value) : Lies (Cel P (w.setCell ⟨k, of, none⟩ v)) o h :=
  hl.keep fun b hb _ => ⟨hb, Below.heap_setCell w ⟨k, of, none⟩ v b (hk b hb)⟩

theorem Lies.drew {P : Nat → Prop} {w : World} {o : Ob} {h : Hd} (hl : Lies (Cel P w) o h) : Lies (Cel P w.drew) o h := hl
theorem Lies.alloc {P : Nat → Prop} {w : World} {o : Ob} {h : Hd} (hl : Lies (Cel P w) o h) (c : Obj) : Lies (Cel P (w.alloc c)) o h :=
  hl.keep fun b hb hlt => ⟨hb, Below.heap_alloc w c b hlt⟩

set_option maxRecDepth 100000 in
set_option maxHeartbeats 4000000 in
theorem object_any (F : Nat) (IH : ObjC F) (s : ByteArray) (a : Int) (dep rb : Nat) (w : World) (hs : s.size ≤ 4294967295) (hm : HasMax w) (hr : Rst s a (dep : Int) rb w) (hF : (Lx.nextV s.data.toList a).1 = 0 → 3 * (s.size - (Lx.nextV s.data.toList a).2.to) + 2 ≤ F) (hdep : dep ≤ 64) (X : Int × Ob × Nat) (hX : X = objAt F s.data.toList dep a) :
    Calls Tryz.prog 30 #[.pointer (some ⟨rb, 0, none⟩)] w (ObjPost s dep rb w X) := by
  have HIH := Lib.hid IH
  have HM := Lib.hid hm
  have HR := Lib.hid hr
  have H0 := Lib.hid (InR.start w hr.lt)
  obtain ⟨T, hT⟩ : ∃ T, T = Lx.nextV s.data.toList a := ⟨_, rfl⟩
  have HT := Lib.hid hT
  have TO := Lib.hid (show TokOk s T.2 by rw [hT]; exact tokOk_next s a)
  have HX := Lib.hid (show X = if T.1 ≠ 0 then (T.1, nul, 0) else objOf F s.data.toList dep T.2 by rw [hX, objAt, hT])
  have HF := Lib.hid (show T.1 = 0 → 3 * (s.size - T.2.to) + 2 ≤ F by rw [hT]; exact hF)
  have H1 := Lib.hid (InR.fresh H0.out nul6 26)
  have R1 := Lib.hid (HR.out.alloc (.cells nul6 26))
  clear IH hm hr hT hX hF H0
  go_enter Tryz.func30, Tryz.ntmps30
  go_wp2_with fail
  (with_reducible refine (token_any s a (dep : Int) rb _ hs (HR.out.max HM.out H1.out.g) R1.out T HT.out).mono ?_)
  rintro e w2 ⟨rfl, hr2, hg2⟩
  obtain ⟨er, kd, fv, st, wh, fr, tq⟩ := T
  have H2 := Lib.hid (InR.fresh (H1.out.gb hg2) #[.int .i64 kd, .int .i64 fv, .string ⟨st.toArray⟩, .bool wh, .int .i64 fr, .int .i64 tq] 108)
  have R2 := Lib.hid (hr2.alloc (.cells #[.int .i64 kd, .int .i64 fv, .string ⟨st.toArray⟩, .bool wh, .int .i64 fr, .int .i64 tq] 108))
  clear hr2 hg2 H1 R1
  unfold tkV
  simp only [] at HX R2 HF TO ⊢
  by_cases he : er = 0
  · subst he
    have HX1 := Lib.hid (show X = objOf F s.data.toList dep ⟨kd, fv, st, wh, fr, tq⟩ by rw [HX.out, if_neg (by simp)])
    have R3 := Lib.hid (show Rst s (tq : Int) (dep : Int) rb (w2.alloc (.cells #[.int .i64 kd, .int .i64 fv, .string ⟨st.toArray⟩, .bool wh, .int .i64 fr, .int .i64 tq] 108)) by simpa using R2.out)
    have CO := HIH.out s ⟨kd, fv, st, wh, fr, tq⟩ dep rb _ hs (HR.out.max HM.out H2.out.g) TO.out R3.out (HF.out rfl) hdep
    rw [← HX1.out] at CO
    unfold tkV at CO
    simp only [] at CO
    have CO1 := Lib.hid CO
    clear CO R2
    obtain ⟨xe, xo, xk⟩ := X
    go_wp2_with fail
    (with_reducible refine CO1.out.mono ?_)
    rintro e w4 ⟨h, rfl, hr4, hg4, hx4⟩
    unfold objV
    simp only []
    have R4 := Lib.hid hr4
    have H4 := Lib.hid (H2.out.gb hg4)
    have hlt2 := (H2.out.mem (List.mem_cons_of_mem _ List.mem_cons_self)).lt
    obtain ⟨SZ, hSZ⟩ : ∃ SZ, SZ = (w2.alloc (.cells #[.int .i64 kd, .int .i64 fv, .string ⟨st.toArray⟩, .bool wh, .int .i64 fr, .int .i64 tq] 108)).heap.size := ⟨_, rfl⟩
    rw [← hSZ] at hx4 hlt2
    have X4 := Lib.hid hx4
    have NK := Lib.hid (show ∀ b, SZ ≤ b → b ≠ w.heap.size from fun b hb => by omega)
    have NW := Lib.hid (show ∀ b, SZ ≤ b → w.heap.size ≤ b from fun b hb => by omega)
    clear hSZ hlt2
    have RM := Lib.hid (H4.out.mem (List.mem_cons_of_mem _ List.mem_cons_self))
    obtain ⟨u0, u1, u2, u3, u4, u5⟩ := RM.out.cells6
    have uf := RM.out.free
    have uz := RM.out.lt
    have rne : w.heap.size ≠ rb := ((H4.out.2.1 _ (List.mem_cons_of_mem _ List.mem_cons_self)).2)
    clear hr4 hg4 hx4
    go_wp2_with fail
    refine bodyPost_ret (v := .tuple #[.agg #[.int .i64 xo.k, .int .i64 xo.n, .int .i64 xo.f, .string xo.s, .slice h.p xo.l.length h.c, .slice h.q xo.d.length h.e], .int .i64 xe]) ?_ rfl ⟨h, rfl, fun h0 => ?_, ?_, ?_⟩
    · simp [results, Tryz.results30, go_sem, u0, u1, u2, u3, u4, u5]
    · have R5 := Lib.hid (R4.out h0)
      repeat (with_reducible first | exact R5.out | refine Rst.drew ?_ | refine Rst.alloc ?_ _ | refine Rst.other ?_ (Ne.symm rne) _)
    · repeat (with_reducible first | exact H4.out.g | refine gb_drew ?_ | refine gb_alloc ?_ _ | refine gb_fresh ?_ (Nat.le_refl _) _)
    · refine Lies.weak (P := fun b => SZ ≤ b) ?_ NW.out
      repeat (with_reducible first | exact X4.out | refine Lies.set ?_ NK.out _)
  · have HX1 := Lib.hid (show X = (er, nul, 0) by rw [HX.out, if_pos he])
    have hne : (er != 0) = true := by simpa using he
    have he' := Lib.hid he
    clear he
    have RM := Lib.hid (H2.out.mem (List.mem_cons_of_mem _ List.mem_cons_self))
    obtain ⟨u0, u1, u2, u3, u4, u5⟩ := RM.out.cells6
    have uf := RM.out.free
    have uz := RM.out.lt
    go_wp2_with fail
    refine bodyPost_ret (v := .tuple #[.agg nul6, .int .i64 er]) ?_ rfl (objPost_bad HX1.out he'.out ?_)
    · simp [results, Tryz.results30, go_sem, u0, u1, u2, u3, u4, u5]
    · repeat (with_reducible first | exact H2.out.g | refine gb_drew ?_ | refine gb_alloc ?_ _ | refine gb_fresh ?_ (Nat.le_refl _) _)

end Go.Proofs.YtnmehngedljgoaaGreatDoor
