/-
  What the rest's entryOf answers, if objectOf answers as it should.
-/
import Derived.Test.YtnmehngedljgoaaGreatDoorCosObject
namespace Go.Proofs.YtnmehngedljgoaaGreatDoor
open Go.RowKit Cx

abbrev nul7 : Array Value := #[.string ⟨#[]⟩, .int .i64 0, .int .i64 0, .int .i64 0, .string ⟨#[]⟩, .slice none 0 0, .slice none 0 0]
theorem Blk.cells7 {w : World} {b : Nat} {v0 v1 v2 v3 v4 v5 v6 : Value} {t : TypeId} (h : Blk w b #[v0, v1, v2, v3, v4, v5, v6] t) : w.cell? ⟨b, 0, none⟩ = some v0 ∧ w.cell? ⟨b, 1, none⟩ = some v1 ∧ w.cell? ⟨b, 2, none⟩ = some v2 ∧ w.cell? ⟨b, 3, none⟩ = some v3 ∧ w.cell? ⟨b, 4, none⟩ = some v4 ∧ w.cell? ⟨b, 5, none⟩ = some v5 ∧ w.cell? ⟨b, 6, none⟩ = some v6 :=
  ⟨h.cell 0, h.cell 1, h.cell 2, h.cell 3, h.cell 4, h.cell 5, h.cell 6⟩

theorem entOf_eq (F : Nat) (l : List UInt8) (dep : Nat) (t : Lx.Tok) : entOf (F + 1) l dep t = if t.kind ≠ 2 then (3, (⟨#[]⟩, nul), 0) else
    if (objAt F l dep t.to).1 = 0 then (0, (str t.s, (objAt F l dep t.to).2.1), (objAt F l dep t.to).2.2) else ((objAt F l dep t.to).1, (⟨#[]⟩, nul), 0) := by
  rw [entOf, objAt]
  by_cases h2 : t.kind ≠ 2
  · rw [if_pos h2, if_pos h2]
  · rw [if_neg h2, if_neg h2]
    by_cases he : (Lx.nextV l (t.to : Int)).1 ≠ 0
    · rw [if_pos he, if_pos he, if_neg he]
    · rw [if_neg he, if_neg he]

theorem entPost_bad {s : ByteArray} {dep rb : Nat} {w w' : World} {er : Int} {X : Int × Entr × Nat} (hX : X = (er, (⟨#[]⟩, nul), 0)) (he : er ≠ 0) (g : w.grownBy w' (some rb)) :
    EntPost s dep rb w X (.returned (.tuple #[.agg #[.string ⟨#[]⟩, .int .i64 0, .int .i64 0, .int .i64 0, .string ⟨#[]⟩, .slice none 0 0, .slice none 0 0], .int .i64 er])) w' :=
  ⟨Hd.none, by rw [hX]; rfl, fun h => absurd (by rw [hX] at h; exact h) he, g, by rw [hX]; exact Lies.flat _ _ _ _ _ _ (Nat.zero_le _)⟩

set_option maxRecDepth 100000 in
set_option maxHeartbeats 4000000 in
theorem entryOf_any (F : Nat) (IH : ObjC F) : EntC (F + 1) := by
  intro s t dep rb w hs hm hto hr hF hdep
  have HIH := Lib.hid IH
  have HM := Lib.hid hm
  have HR := Lib.hid hr
  have H0 := Lib.hid (InR.start w hr.lt)
  have HX := Lib.hid (entOf_eq F s.data.toList dep t)
  obtain ⟨X, hX⟩ : ∃ X, X = entOf (F + 1) s.data.toList dep t := ⟨_, rfl⟩
  rw [← hX] at HX ⊢
  obtain ⟨XO, hXO⟩ : ∃ XO, XO = objAt F s.data.toList dep t.to := ⟨_, rfl⟩
  have HXO := Lib.hid hXO
  have HFF := Lib.hid (show (Lx.nextV s.data.toList (t.to : Int)).1 = 0 → 3 * (s.size - (Lx.nextV s.data.toList (t.to : Int)).2.to) + 2 ≤ F from fun h => by
    have := next_le s.data.toList t.to h
    omega)
  rw [← HXO.out] at HX
  clear IH hm hr hX hF hXO hto
  obtain ⟨kd, fv, st, wh, fr, tq⟩ := t
  unfold tkV
  simp only [] at HX HR HFF HXO ⊢
  have H1 := Lib.hid (InR.fresh' (k := w.heap.size + 1) (InR.fresh H0.out #[.int .i64 kd, .int .i64 fv, .string ⟨st.toArray⟩, .bool wh, .int .i64 fr, .int .i64 tq] 108) nul7 57 (by simp))
  have R1 := Lib.hid ((HR.out.alloc (.cells #[.int .i64 kd, .int .i64 fv, .string ⟨st.toArray⟩, .bool wh, .int .i64 fr, .int .i64 tq] 108)).alloc (.cells nul7 57))
  clear H0
  by_cases h2 : kd = 2
  · subst h2
    have HX1 := Lib.hid (show X = if XO.1 = 0 then (0, (str st, XO.2.1), XO.2.2) else (XO.1, (⟨#[]⟩, nul), 0) by rw [HX.out, if_neg (by simp)])
    have CO := object_any F HIH.out s (tq : Int) dep rb _ hs (HR.out.max HM.out H1.out.g) R1.out HFF.out hdep XO HXO.out
    have CO1 := Lib.hid CO
    clear CO
    obtain ⟨xe, xo, xk⟩ := XO
    simp only [] at HX1
    go_enter Tryz.func124, Tryz.ntmps124
    go_wp2_with fail
    (with_reducible refine CO1.out.mono ?_)
    rintro e w4 ⟨h, rfl, hr4, hg4, hx4⟩
    unfold objV
    simp only []
    have hlt2 := (H1.out.mem (List.mem_cons_self)).lt
    obtain ⟨SZ, hSZ⟩ : ∃ SZ, SZ = ((w.alloc (.cells #[.int .i64 2, .int .i64 fv, .string ⟨st.toArray⟩, .bool wh, .int .i64 fr, .int .i64 tq] 108)).alloc (.cells nul7 57)).heap.size := ⟨_, rfl⟩
    rw [← hSZ] at hx4 hlt2
    have X4 := Lib.hid hx4
    have NK := Lib.hid (show ∀ b, SZ ≤ b → b ≠ w.heap.size + 1 from fun b hb => by omega)
    have NW := Lib.hid (show ∀ b, SZ ≤ b → w.heap.size ≤ b from fun b hb => by omega)
    have R4 := Lib.hid hr4
    have H4 := Lib.hid (H1.out.gb hg4)
    have RM := Lib.hid (H4.out.mem List.mem_cons_self)
    have TM := Lib.hid (H4.out.mem (List.mem_cons_of_mem _ List.mem_cons_self))
    obtain ⟨u0, u1, u2, u3, u4, u5, u6⟩ := RM.out.cells7
    have uf := RM.out.free
    have uz := RM.out.lt
    obtain ⟨t0, t1, t2, t3, t4, t5⟩ := TM.out.cells6
    have tz := TM.out.lt
    have rne : w.heap.size + 1 ≠ rb := ((H4.out.2.1 _ List.mem_cons_self).2)
    clear hSZ hlt2 hr4 hg4 hx4
    by_cases hx : xe = 0
    · subst hx
      have HX2 := Lib.hid (show X = (0, (str st, xo), xk) by rw [HX1.out, if_pos rfl])
      go_wp2_with fail
      refine bodyPost_ret (v := .tuple #[.agg #[.string ⟨st.toArray⟩, .int .i64 xo.k, .int .i64 xo.n, .int .i64 xo.f, .string xo.s, .slice h.p xo.l.length h.c, .slice h.q xo.d.length h.e], .int .i64 0]) ?_ rfl ⟨h, by rw [HX2.out]; rfl, fun _ => ?_, ?_, ?_⟩
      · simp [results, Tryz.results124, go_sem, u0, u1, u2, u3, u4, u5, u6, uz]
      · have R5 := Lib.hid (R4.out (by trivial))
        rw [HX2.out]
        repeat (with_reducible first | exact R5.out | refine Rst.drew ?_ | refine Rst.alloc ?_ _ | refine Rst.other ?_ (Ne.symm rne) _)
      · repeat (with_reducible first | exact H4.out.g | refine gb_drew ?_ | refine gb_alloc ?_ _ | refine gb_fresh ?_ (Nat.le_succ _) _)
      · rw [HX2.out]
        refine Lies.weak (P := fun b => SZ ≤ b) ?_ NW.out
        repeat (with_reducible first | exact X4.out | refine Lies.set ?_ NK.out _ | refine Lies.alloc ?_ _)
    · have HX2 := Lib.hid (show X = (xe, (⟨#[]⟩, nul), 0) by rw [HX1.out, if_neg hx])
      have hne : (xe != 0) = true := by simpa using hx
      have he' := Lib.hid hx
      clear hx
      go_wp2_with fail
      refine bodyPost_ret (v := .tuple #[.agg nul7, .int .i64 xe]) ?_ rfl (entPost_bad HX2.out he'.out ?_)
      · simp [results, Tryz.results124, go_sem, u0, u1, u2, u3, u4, u5, u6, uz]
      · repeat (with_reducible first | exact H4.out.g | refine gb_drew ?_ | refine gb_alloc ?_ _ | refine gb_fresh ?_ (Nat.le_succ _) _)
  · have HX1 := Lib.hid (show X = (3, (⟨#[]⟩, nul), 0) by rw [HX.out, if_pos h2])
    have hne : (kd != 2) = true := by simpa using h2
    clear h2
    have RM := Lib.hid (H1.out.mem List.mem_cons_self)
    obtain ⟨u0, u1, u2, u3, u4, u5, u6⟩ := RM.out.cells7
    have uf := RM.out.free
    go_enter Tryz.func124, Tryz.ntmps124
    go_wp2_with fail
    refine bodyPost_ret (v := .tuple #[.agg nul7, .int .i64 3]) ?_ rfl (entPost_bad HX1.out (by decide) ?_)
    · simp [results, Tryz.results124, go_sem]
    · repeat (with_reducible first | exact gb_refl _ _ | refine gb_drew ?_ | refine gb_alloc ?_ _ | refine gb_fresh ?_ (Nat.le_succ _) _)

end Go.Proofs.YtnmehngedljgoaaGreatDoor
