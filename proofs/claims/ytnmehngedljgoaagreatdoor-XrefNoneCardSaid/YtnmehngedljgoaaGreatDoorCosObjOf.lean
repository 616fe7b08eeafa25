/-
  What the rest's objectOf answers, whatever the text, if settled answers as it should.
-/
import Derived.Test.YtnmehngedljgoaaGreatDoorCosArr
namespace Go.Proofs.YtnmehngedljgoaaGreatDoor
open Go.RowKit Cx

theorem objOf_eq (F : Nat) (l : List UInt8) (dep : Nat) (t : Lx.Tok) : objOf (F + 1) l dep t =
    if t.kind = 0 then (4, nul, 0) else if t.kind = 1 then (0, (numberV l t).1, (numberV l t).2) else if t.kind = 2 then (0, .mk 3 0 0 (str t.s) [] [], t.to) else if t.kind = 3 then (0, .mk 4 0 0 (str t.s) [] [], t.to)
    else if t.kind = 8 then ((wordV t.s).1, (wordV t.s).2, if (wordV t.s).1 = 0 then t.to else 0) else if t.kind = 4 then arrV F l dep t.to else if t.kind = 6 then dictV F l dep t.to else (3, nul, 0) := by
  rw [objOf]; rfl

theorem wordV_flat (s : List UInt8) : ∃ k n, (wordV s).2 = .mk k n 0 ⟨#[]⟩ [] [] ∧ ((wordV s).1 = 0 ∨ (wordV s).2 = nul) := by
  unfold wordV
  split
  · exact ⟨_, _, rfl, .inl rfl⟩
  · split
    · exact ⟨_, _, rfl, .inl rfl⟩
    · split
      · exact ⟨0, 0, rfl, .inl rfl⟩
      · exact ⟨0, 0, rfl, .inr rfl⟩
theorem numberV_flat (l : List UInt8) (t : Lx.Tok) : ∃ k n f, (numberV l t).1 = .mk k n f ⟨#[]⟩ [] [] := by
  unfold numberV numV
  split
  · split
    · split
      · exact ⟨_, _, _, rfl⟩
      · exact ⟨_, _, _, rfl⟩
    · exact ⟨_, _, _, rfl⟩
  · exact ⟨_, _, _, rfl⟩

set_option maxRecDepth 100000 in
set_option maxHeartbeats 8000000 in
theorem objectOf_step (HSET : SetC) (F : Nat) (IH : ∀ F', F' < F + 1 → ObjC F') : ObjC (F + 1) := by
  intro s t dep rb w hs hm hto hr hF hdep
  have IHE : ∀ F', F' < F → EntC F' := fun F' h => by
    cases F' with
    | zero => intro s t dep rb w _ _ _ _ hF _; omega
    | succ F' => exact entryOf_any F' (IH F' (by omega))
  have CA := Lib.hid (fun (w' : World) (hm' : HasMax w') (hr' : Rst s (t.to : Int) (dep : Int) rb w') => arrOf_any F (fun F' h => IH F' (by omega)) s t.to dep rb w' hs hm' hr' (by omega) hto.1 hdep _ rfl)
  have CD := Lib.hid (fun (w' : World) (hm' : HasMax w') (hr' : Rst s (t.to : Int) (dep : Int) rb w') => dictOf_any HSET F IHE s t.to dep rb w' hs hm' hr' (by omega) hto.1 hdep _ rfl)
  have CN := Lib.hid (fun (w' : World) (hm' : HasMax w') (hr' : Rst s (t.to : Int) (dep : Int) rb w') => numberOf_any t s (dep : Int) rb w' hs hm' hr' (by have := hto.2.1; omega) (by have := hto.2.1; omega))
  have CW := Lib.hid (fun w' => wordOf_any t w')
  have HM := Lib.hid hm
  have HR := Lib.hid hr
  have HX := Lib.hid (objOf_eq F s.data.toList dep t)
  obtain ⟨X, hX⟩ : ∃ X, X = objOf (F + 1) s.data.toList dep t := ⟨_, rfl⟩
  rw [← hX] at HX ⊢
  have H0 := Lib.hid (InR.start w hr.lt)
  have LS := Lib.hid (show t.s.length ≤ maxLen by have := hto.2.2; unfold maxLen; omega)
  clear IH IHE hm hr hX hto hF
  have HWF := Lib.hid (wordV_flat t.s)
  have HNF := Lib.hid (numberV_flat s.data.toList t)
  obtain ⟨kd, fv, st, wh, fr, tq⟩ := t
  unfold tkV at CN CW ⊢
  simp only [] at HX HR CA CD CN CW LS HWF ⊢
  have H1 := Lib.hid (InR.fresh' (k := w.heap.size + 1) (InR.fresh H0.out #[.int .i64 kd, .int .i64 fv, .string ⟨st.toArray⟩, .bool wh, .int .i64 fr, .int .i64 tq] 108) nul6 26 (by simp))
  have R1 := Lib.hid ((HR.out.alloc (.cells #[.int .i64 kd, .int .i64 fv, .string ⟨st.toArray⟩, .bool wh, .int .i64 fr, .int .i64 tq] 108)).alloc (.cells nul6 26))
  clear H0
  have M1 := Lib.hid (HR.out.max HM.out H1.out.g)
  have rne : w.heap.size + 1 ≠ rb := ((H1.out.2.1 _ List.mem_cons_self).2)
  by_cases h0 : kd = 0
  · subst h0
    have HX1 := Lib.hid (show X = (4, nul, 0) by rw [HX.out, if_pos rfl])
    go_enter Tryz.func62, Tryz.ntmps62
    go_wp2_with fail
    refine bodyPost_ret (v := .tuple #[.agg nul6, .int .i64 4]) ?_ rfl (objPost_bad HX1.out (by decide) ?_)
    · simp [results, Tryz.results62, go_sem]
    · repeat (with_reducible first | exact gb_refl _ _ | refine gb_drew ?_ | refine gb_alloc ?_ _ | refine gb_fresh ?_ (Nat.le_succ _) _)
  have e0 : (kd == 0) = false := by rw [beq_eq_false_iff_ne]; exact h0
  by_cases h1 : kd = 1
  · subst h1
    obtain ⟨nk, nn, nf, hnf⟩ := HNF.out
    have HX1 := Lib.hid (show X = (0, .mk nk nn nf ⟨#[]⟩ [] [], (numberV s.data.toList ⟨1, fv, st, wh, fr, tq⟩).2) by rw [HX.out, if_neg h0, if_pos rfl, hnf])
    have CN1 := CN.out _ M1.out R1.out
    rw [hnf] at CN1
    unfold objV Hd.none at CN1
    simp only [Ob.k, Ob.n, Ob.f, Ob.s, Ob.l, Ob.d, List.length_nil] at CN1
    have CN2 := Lib.hid CN1
    clear CN1 hnf
    obtain ⟨NQ, hNQ⟩ : ∃ NQ, NQ = (numberV s.data.toList ⟨1, fv, st, wh, fr, tq⟩).2 := ⟨_, rfl⟩
    rw [← hNQ] at HX1 CN2
    clear hNQ
    go_enter Tryz.func62, Tryz.ntmps62
    go_wp2_with fail
    (with_reducible refine CN2.out.mono ?_)
    rintro e w2 ⟨rfl, hr2, hg2⟩
    have H2 := Lib.hid (H1.out.gb hg2)
    have R2 := Lib.hid hr2
    clear hr2 hg2
    have RM := Lib.hid (H2.out.mem List.mem_cons_self)
    obtain ⟨u0, u1, u2, u3, u4, u5⟩ := RM.out.cells6
    have uf := RM.out.free
    have uz := RM.out.lt
    go_wp2_with fail
    refine bodyPost_ret (v := .tuple #[.agg #[.int .i64 nk, .int .i64 nn, .int .i64 nf, .string ⟨#[]⟩, .slice none 0 0, .slice none 0 0], .int .i64 0]) ?_ rfl (objPost_good (h := Hd.none) HX1.out ?_ ?_ (Lies.flat _ _ _ _ _ _ (Nat.zero_le _)))
    · simp [results, Tryz.results62, go_sem, u0, u1, u2, u3, u4, u5]
    · repeat (with_reducible first | exact R2.out | refine Rst.drew ?_ | refine Rst.alloc ?_ _ | refine Rst.other ?_ (Ne.symm rne) _)
    · repeat (with_reducible first | exact H2.out.g | refine gb_drew ?_ | refine gb_alloc ?_ _ | refine gb_fresh ?_ (Nat.le_succ _) _)
  have e1 : (kd == 1) = false := by rw [beq_eq_false_iff_ne]; exact h1
  by_cases h2 : kd = 2
  · subst h2
    have HX1 := Lib.hid (show X = (0, .mk 3 0 0 (str st) [] [], tq) by rw [HX.out, if_neg h0, if_neg h1, if_pos rfl])
    go_enter Tryz.func62, Tryz.ntmps62
    go_wp2_with fail
    have CWD := cosWord_any ⟨st.toArray⟩
    unfold objV Hd.none at CWD
    simp only [Ob.k, Ob.n, Ob.f, Ob.s, Ob.l, Ob.d, List.length_nil] at CWD
    (with_reducible refine (CWD _).mono ?_)
    rintro e w2 ⟨rfl, hk2⟩
    have H2 := Lib.hid (H1.out.kept hk2)
    have R2 := Lib.hid (R1.out.kept hk2)
    clear hk2 CWD
    have RM := Lib.hid (H2.out.mem List.mem_cons_self)
    obtain ⟨u0, u1, u2, u3, u4, u5⟩ := RM.out.cells6
    have uf := RM.out.free
    have uz := RM.out.lt
    go_wp2_with fail
    refine bodyPost_ret (v := .tuple #[.agg #[.int .i64 3, .int .i64 0, .int .i64 0, .string ⟨st.toArray⟩, .slice none 0 0, .slice none 0 0], .int .i64 0]) ?_ rfl (objPost_good (h := Hd.none) HX1.out ?_ ?_ (Lies.flat _ _ _ _ _ _ LS.out))
    · simp [results, Tryz.results62, go_sem, u0, u1, u2, u3, u4, u5]
    · repeat (with_reducible first | exact R2.out | refine Rst.drew ?_ | refine Rst.alloc ?_ _ | refine Rst.other ?_ (Ne.symm rne) _)
    · repeat (with_reducible first | exact H2.out.g | refine gb_drew ?_ | refine gb_alloc ?_ _ | refine gb_fresh ?_ (Nat.le_succ _) _)
  have e2 : (kd == 2) = false := by rw [beq_eq_false_iff_ne]; exact h2
  by_cases h3 : kd = 3
  · subst h3
    have HX1 := Lib.hid (show X = (0, .mk 4 0 0 (str st) [] [], tq) by rw [HX.out, if_neg h0, if_neg h1, if_neg h2, if_pos rfl])
    go_enter Tryz.func62, Tryz.ntmps62
    go_wp2_with fail
    refine bodyPost_ret (v := .tuple #[.agg #[.int .i64 4, .int .i64 0, .int .i64 0, .string ⟨st.toArray⟩, .slice none 0 0, .slice none 0 0], .int .i64 0]) ?_ rfl (objPost_good (h := Hd.none) HX1.out ?_ ?_ (Lies.flat _ _ _ _ _ _ LS.out))
    · simp [results, Tryz.results62, go_sem]
    · repeat (with_reducible first | exact HR.out | refine Rst.drew ?_ | refine Rst.alloc ?_ _ | refine Rst.other ?_ (Ne.symm rne) _)
    · repeat (with_reducible first | exact gb_refl _ _ | refine gb_drew ?_ | refine gb_alloc ?_ _ | refine gb_fresh ?_ (Nat.le_succ _) _)
  have e3 : (kd == 3) = false := by rw [beq_eq_false_iff_ne]; exact h3
  by_cases h8 : kd = 8
  · subst h8
    obtain ⟨wk, wn, hwf, hwo⟩ := HWF.out
    obtain ⟨we, hwe⟩ : ∃ we, we = (wordV st).1 := ⟨_, rfl⟩
    have HX1 := Lib.hid (show X = (we, .mk wk wn 0 ⟨#[]⟩ [] [], if we = 0 then tq else 0) by rw [HX.out, if_neg h0, if_neg h1, if_neg h2, if_neg h3, if_pos rfl, hwf, hwe])
    have CW1 := CW.out
    rw [hwf, ← hwe] at CW1
    unfold objV Hd.none at CW1
    simp only [Ob.k, Ob.n, Ob.f, Ob.s, Ob.l, Ob.d, List.length_nil] at CW1
    have CW2 := Lib.hid CW1
    clear CW1 hwf hwo hwe
    go_enter Tryz.func62, Tryz.ntmps62
    go_wp2_with fail
    (with_reducible refine (CW2.out _).mono ?_)
    rintro e w2 ⟨rfl, hk2⟩
    have H2 := Lib.hid (H1.out.kept hk2)
    have R2 := Lib.hid (R1.out.kept hk2)
    clear hk2
    have RM := Lib.hid (H2.out.mem List.mem_cons_self)
    obtain ⟨u0, u1, u2, u3, u4, u5⟩ := RM.out.cells6
    have uf := RM.out.free
    have uz := RM.out.lt
    go_wp2_with fail
    refine bodyPost_ret (v := .tuple #[.agg #[.int .i64 wk, .int .i64 wn, .int .i64 0, .string ⟨#[]⟩, .slice none 0 0, .slice none 0 0], .int .i64 we]) ?_ rfl ⟨Hd.none, by rw [HX1.out]; rfl, fun h0 => ?_, ?_, by rw [HX1.out]; exact Lies.flat _ _ _ _ _ _ (Nat.zero_le _)⟩
    · simp [results, Tryz.results62, go_sem, u0, u1, u2, u3, u4, u5]
    · rw [HX1.out] at h0 ⊢
      simp only [] at h0 ⊢
      rw [if_pos h0]
      repeat (with_reducible first | exact R2.out | refine Rst.drew ?_ | refine Rst.alloc ?_ _ | refine Rst.other ?_ (Ne.symm rne) _)
    · repeat (with_reducible first | exact H2.out.g | refine gb_drew ?_ | refine gb_alloc ?_ _ | refine gb_fresh ?_ (Nat.le_succ _) _)
  have e8 : (kd == 8) = false := by rw [beq_eq_false_iff_ne]; exact h8
  by_cases h4 : kd = 4
  · subst h4
    have HX1 := Lib.hid (show X = arrV F s.data.toList dep tq by rw [HX.out, if_neg h0, if_neg h1, if_neg h2, if_neg h3, if_neg h8, if_pos rfl])
    have C1 := CA.out _ M1.out R1.out
    rw [← HX1.out] at C1
    have C2 := Lib.hid C1
    have hlt1 := (H1.out.mem List.mem_cons_self).lt
    clear C1
    obtain ⟨xe, xo, xk⟩ := X
    go_enter Tryz.func62, Tryz.ntmps62
    go_wp2_with fail
    (with_reducible refine C2.out.mono ?_)
    rintro e w2 ⟨h, rfl, hr2, hg2, hx2⟩
    unfold objV
    simp only []
    obtain ⟨SZ, hSZ⟩ : ∃ SZ, SZ = ((w.alloc (.cells #[.int .i64 4, .int .i64 fv, .string ⟨st.toArray⟩, .bool wh, .int .i64 fr, .int .i64 tq] 108)).alloc (.cells nul6 26)).heap.size := ⟨_, rfl⟩
    rw [← hSZ] at hx2 hlt1
    have X2 := Lib.hid hx2
    have NK := Lib.hid (show ∀ b, SZ ≤ b → b ≠ w.heap.size + 1 from fun b hb => by omega)
    have NW := Lib.hid (show ∀ b, SZ ≤ b → w.heap.size ≤ b from fun b hb => by omega)
    have H2 := Lib.hid (H1.out.gb hg2)
    have R2 := Lib.hid hr2
    clear hSZ hlt1 hr2 hg2 hx2
    have RM := Lib.hid (H2.out.mem List.mem_cons_self)
    obtain ⟨u0, u1, u2, u3, u4, u5⟩ := RM.out.cells6
    have uf := RM.out.free
    have uz := RM.out.lt
    go_wp2_with fail
    refine bodyPost_ret (v := .tuple #[.agg #[.int .i64 xo.k, .int .i64 xo.n, .int .i64 xo.f, .string xo.s, .slice h.p xo.l.length h.c, .slice h.q xo.d.length h.e], .int .i64 xe]) ?_ rfl ⟨h, rfl, fun h0 => ?_, ?_, ?_⟩
    · simp [results, Tryz.results62, go_sem, u0, u1, u2, u3, u4, u5]
    · have R5 := Lib.hid (R2.out h0)
      repeat (with_reducible first | exact R5.out | refine Rst.drew ?_ | refine Rst.alloc ?_ _ | refine Rst.other ?_ (Ne.symm rne) _)
    · repeat (with_reducible first | exact H2.out.g | refine gb_drew ?_ | refine gb_alloc ?_ _ | refine gb_fresh ?_ (Nat.le_succ _) _)
    · refine Lies.weak (P := fun b => SZ ≤ b) ?_ NW.out
      repeat (with_reducible first | exact X2.out | refine Lies.set ?_ NK.out _ | refine Lies.alloc ?_ _)
  have e4 : (kd == 4) = false := by rw [beq_eq_false_iff_ne]; exact h4
  by_cases h6 : kd = 6
  · subst h6
    have HX1 := Lib.hid (show X = dictV F s.data.toList dep tq by rw [HX.out, if_neg h0, if_neg h1, if_neg h2, if_neg h3, if_neg h8, if_neg h4, if_pos rfl])
    have C1 := CD.out _ M1.out R1.out
    rw [← HX1.out] at C1
    have C2 := Lib.hid C1
    have hlt1 := (H1.out.mem List.mem_cons_self).lt
    clear C1
    obtain ⟨xe, xo, xk⟩ := X
    go_enter Tryz.func62, Tryz.ntmps62
    go_wp2_with fail
    (with_reducible refine C2.out.mono ?_)
    rintro e w2 ⟨h, rfl, hr2, hg2, hx2⟩
    unfold objV
    simp only []
    obtain ⟨SZ, hSZ⟩ : ∃ SZ, SZ = ((w.alloc (.cells #[.int .i64 6, .int .i64 fv, .string ⟨st.toArray⟩, .bool wh, .int .i64 fr, .int .i64 tq] 108)).alloc (.cells nul6 26)).heap.size := ⟨_, rfl⟩
    rw [← hSZ] at hx2 hlt1
    have X2 := Lib.hid hx2
    have NK := Lib.hid (show ∀ b, SZ ≤ b → b ≠ w.heap.size + 1 from fun b hb => by omega)
    have NW := Lib.hid (show ∀ b, SZ ≤ b → w.heap.size ≤ b from fun b hb => by omega)
    have H2 := Lib.hid (H1.out.gb hg2)
    have R2 := Lib.hid hr2
    clear hSZ hlt1 hr2 hg2 hx2
    have RM := Lib.hid (H2.out.mem List.mem_cons_self)
    obtain ⟨u0, u1, u2, u3, u4, u5⟩ := RM.out.cells6
    have uf := RM.out.free
    have uz := RM.out.lt
    go_wp2_with fail
    refine bodyPost_ret (v := .tuple #[.agg #[.int .i64 xo.k, .int .i64 xo.n, .int .i64 xo.f, .string xo.s, .slice h.p xo.l.length h.c, .slice h.q xo.d.length h.e], .int .i64 xe]) ?_ rfl ⟨h, rfl, fun h0 => ?_, ?_, ?_⟩
    · simp [results, Tryz.results62, go_sem, u0, u1, u2, u3, u4, u5]
    · have R5 := Lib.hid (R2.out h0)
      repeat (with_reducible first | exact R5.out | refine Rst.drew ?_ | refine Rst.alloc ?_ _ | refine Rst.other ?_ (Ne.symm rne) _)
    · repeat (with_reducible first | exact H2.out.g | refine gb_drew ?_ | refine gb_alloc ?_ _ | refine gb_fresh ?_ (Nat.le_succ _) _)
    · refine Lies.weak (P := fun b => SZ ≤ b) ?_ NW.out
      repeat (with_reducible first | exact X2.out | refine Lies.set ?_ NK.out _ | refine Lies.alloc ?_ _)
  have e6 : (kd == 6) = false := by rw [beq_eq_false_iff_ne]; exact h6
  have HX1 := Lib.hid (show X = (3, nul, 0) by rw [HX.out, if_neg h0, if_neg h1, if_neg h2, if_neg h3, if_neg h8, if_neg h4, if_neg h6])
  clear h0 h1 h2 h3 h8 h4 h6
  go_enter Tryz.func62, Tryz.ntmps62
  go_wp2_with fail
  refine bodyPost_ret (v := .tuple #[.agg nul6, .int .i64 3]) ?_ rfl (objPost_bad HX1.out (by decide) ?_)
  · simp [results, Tryz.results62, go_sem]
  · repeat (with_reducible first | exact gb_refl _ _ | refine gb_drew ?_ | refine gb_alloc ?_ _ | refine gb_fresh ?_ (Nat.le_succ _) _)

theorem obj_all (HSET : SetC) (F : Nat) : ∀ F', F' < F → ObjC F' := by
  induction F with
  | zero => intro F' h; omega
  | succ F ih =>
    intro F' h
    by_cases e : F' < F
    · exact ih F' e
    · obtain rfl : F' = F := by omega
      cases F' with
      | zero => intro s t dep rb w _ _ _ _ hF _; omega
      | succ F => exact objectOf_step HSET F ih
theorem objC_any (HSET : SetC) (F : Nat) : ObjC F := obj_all HSET (F + 1) F (by omega)

end Go.Proofs.YtnmehngedljgoaaGreatDoor
