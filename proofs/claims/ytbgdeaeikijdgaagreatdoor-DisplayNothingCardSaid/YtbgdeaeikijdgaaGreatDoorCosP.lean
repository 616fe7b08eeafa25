/-
  What the rest's object and entryOf answer, if objectOf answers as it should.
  What the rest's entryOf answers, if objectOf answers as it should.
  What the rest's arrOf and dictOf answer, if objects and entries within are answered as they should, and settled answers as it should.
  What the rest's objectOf answers, whatever the text, if settled answers as it should.
  What package cos's Parse answers, at every text and place, if settled answers as it should.
-/
import Derived.Test.YtbgdeaeikijdgaaGreatDoorCosU
namespace Go.Proofs.YtbgdeaeikijdgaaGreatDoor
open Go.RowKit Cx

/-- The object behind a place, at a fuel. -/
def objAt (F : Nat) (l : List UInt8) (dep : Nat) (a : Int) : Int × Ob × Nat := if (Lx.nextV l a).1 ≠ 0 then ((Lx.nextV l a).1, nul, 0) else objOf F l dep (Lx.nextV l a).2

theorem objPost_bad {s : ByteArray} {dep rb : Nat} {w w' : World} {er : Int} {X : Int × Ob × Nat} (hX : X = (er, nul, 0)) (he : er ≠ 0) (g : w.grownBy w' (some rb)) :
    ObjPost s dep rb w X (.returned (.tuple #[.agg #[.int .i64 0, .int .i64 0, .int .i64 0, .string ⟨#[]⟩, .slice none 0 0, .slice none 0 0], .int .i64 er])) w' :=
  ⟨Hd.none, by rw [hX]; rfl, fun h => absurd (by rw [hX] at h; exact h) he, g, by rw [hX]; exact Lies.flat _ _ _ _ _ _ (Nat.zero_le _)⟩
theorem objPost_good {s : ByteArray} {dep rb : Nat} {w w' : World} {o : Ob} {k : Nat} {h : Hd} {X : Int × Ob × Nat} (hX : X = (0, o, k)) (r : Rst s (k : Int) (dep : Int) rb w') (g : w.grownBy w' (some rb)) (hl : Lies (Cel (fun b => w.heap.size ≤ b) w') o h) :
    ObjPost s dep rb w X (.returned (.tuple #[objV o h, .int .i64 0])) w' :=
  ⟨h, by rw [hX], fun _ => by rw [hX]; exact r, g, by rw [hX]; exact hl⟩

theorem Lies.set {P : Nat → Prop} {w : World} {o : Ob} {h : Hd} {k of : Nat} (hl : Lies (Cel P w) o h) (hk : ∀ b, P b → b ≠ k) (v : Value) : Lies (Cel P (w.setCell ⟨k, of, none⟩ v)) o h :=
  hl.keep fun b hb _ => ⟨hb, Below.heap_setCell w ⟨k, of, none⟩ v b (hk b hb)⟩

theorem Lies.drew {P : Nat → Prop} {w : World} {o : Ob} {h : Hd} (hl : Lies (Cel P w) o h) : Lies (Cel P w.drew) o h := hl
theorem Lies.alloc {P : Nat → Prop} {w : World} {o : Ob} {h : Hd} (hl : Lies (Cel P w) o h) (c : Obj) : Lies (Cel P (w.alloc c)) o h :=
  hl.keep fun b hb hlt => ⟨hb, Below.heap_alloc w c b hlt⟩

set_option maxRecDepth 100000 in
set_option maxHeartbeats 4000000 in
theorem object_any (F : Nat) (IH : ObjC F) (s : ByteArray) (a : Int) (dep rb : Nat) (w : World) (hs : s.size ≤ 4294967295) (hm : HasMax w) (hr : Rst s a (dep : Int) rb w) (hF : (Lx.nextV s.data.toList a).1 = 0 → 3 * (s.size - (Lx.nextV s.data.toList a).2.to) + 2 ≤ F) (hdep : dep ≤ 64) (X : Int × Ob × Nat) (hX : X = objAt F s.data.toList dep a) :
    Calls Tryz.prog 123 #[.pointer (some ⟨rb, 0, none⟩)] w (ObjPost s dep rb w X) := by
  have HIH := Lib.hid IH
  have HM := Lib.hid hm
  have HR := Lib.hid hr
  have H0 := Lib.hid (InR.start w hr.lt)
  obtain ⟨T, hT⟩ : ∃ T, T = Lx.nextV s.data.toList a := ⟨_, rfl⟩
  have HT := Lib.hid hT
  have TO := Lib.hid (show TokOk s T.2 by rw [hT]; exact tokOk_next s a)
  have HX := Lib.hid (show X = if T.1 ≠ 0 then (T.1, nul, 0) else objOf F s.data.toList dep T.2 by rw [hX, objAt, hT])
  have HF := Lib.hid (show T.1 = 0 → 3 * (s.size - T.2.to) + 2 ≤ F by rw [hT]; exact hF)
  have H1 := Lib.hid (InR.fresh H0.out nul6 43)
  have R1 := Lib.hid (HR.out.alloc (.cells nul6 43))
  clear IH hm hr hT hX hF H0
  go_enter Tryz.func123, Tryz.ntmps123
  go_wp2_with fail
  (with_reducible refine (token_any s a (dep : Int) rb _ hs (HR.out.max HM.out H1.out.g) R1.out T HT.out).mono ?_)
  rintro e w2 ⟨rfl, hr2, hg2⟩
  obtain ⟨er, kd, fv, st, wh, fr, tq⟩ := T
  have H2 := Lib.hid (InR.fresh (H1.out.gb hg2) #[.int .i64 kd, .int .i64 fv, .string ⟨st.toArray⟩, .bool wh, .int .i64 fr, .int .i64 tq] 108)
  have R2 := Lib.hid (hr2.alloc (.cells #[.int .i64 kd, .int .i64 fv, .string ⟨st.toArray⟩, .bool wh, .int .i64 fr, .int .i64 tq] 108))
  clear hr2 hg2 H1 R1
  unfold tkV
  simp only [] at HX R2 HF TO ⊢
  by_cases he : er = 0
  · subst he
    have HX1 := Lib.hid (show X = objOf F s.data.toList dep ⟨kd, fv, st, wh, fr, tq⟩ by rw [HX.out, if_neg (by simp)])
    have R3 := Lib.hid (show Rst s (tq : Int) (dep : Int) rb (w2.alloc (.cells #[.int .i64 kd, .int .i64 fv, .string ⟨st.toArray⟩, .bool wh, .int .i64 fr, .int .i64 tq] 108)) by simpa using R2.out)
    have CO := HIH.out s ⟨kd, fv, st, wh, fr, tq⟩ dep rb _ hs (HR.out.max HM.out H2.out.g) TO.out R3.out (HF.out rfl) hdep
    rw [← HX1.out] at CO
    unfold tkV at CO
    simp only [] at CO
    have CO1 := Lib.hid CO
    clear CO R2
    obtain ⟨xe, xo, xk⟩ := X
    go_wp2_with fail
    (with_reducible refine CO1.out.mono ?_)
    rintro e w4 ⟨h, rfl, hr4, hg4, hx4⟩
    unfold objV
    simp only []
    have R4 := Lib.hid hr4
    have H4 := Lib.hid (H2.out.gb hg4)
    have hlt2 := (H2.out.mem (List.mem_cons_of_mem _ List.mem_cons_self)).lt
    obtain ⟨SZ, hSZ⟩ : ∃ SZ, SZ = (w2.alloc (.cells #[.int .i64 kd, .int .i64 fv, .string ⟨st.toArray⟩, .bool wh, .int .i64 fr, .int .i64 tq] 108)).heap.size := ⟨_, rfl⟩
    rw [← hSZ] at hx4 hlt2
    have X4 := Lib.hid hx4
    have NK := Lib.hid (show ∀ b, SZ ≤ b → b ≠ w.heap.size from fun b hb => by omega)
    have NW := Lib.hid (show ∀ b, SZ ≤ b → w.heap.size ≤ b from fun b hb => by omega)
    clear hSZ hlt2
    have RM := Lib.hid (H4.out.mem (List.mem_cons_of_mem _ List.mem_cons_self))
    obtain ⟨u0, u1, u2, u3, u4, u5⟩ := RM.out.cells6
    have uf := RM.out.free
    have uz := RM.out.lt
    have rne : w.heap.size ≠ rb := ((H4.out.2.1 _ (List.mem_cons_of_mem _ List.mem_cons_self)).2)
    clear hr4 hg4 hx4
    go_wp2_with fail
    refine bodyPost_ret (v := .tuple #[.agg #[.int .i64 xo.k, .int .i64 xo.n, .int .i64 xo.f, .string xo.s, .slice h.p xo.l.length h.c, .slice h.q xo.d.length h.e], .int .i64 xe]) ?_ rfl ⟨h, rfl, fun h0 => ?_, ?_, ?_⟩
    · simp [results, Tryz.results123, go_sem, u0, u1, u2, u3, u4, u5]
    · have R5 := Lib.hid (R4.out h0)
      repeat (with_reducible first | exact R5.out | refine Rst.drew ?_ | refine Rst.alloc ?_ _ | refine Rst.other ?_ (Ne.symm rne) _)
    · repeat (with_reducible first | exact H4.out.g | refine gb_drew ?_ | refine gb_alloc ?_ _ | refine gb_fresh ?_ (Nat.le_refl _) _)
    · refine Lies.weak (P := fun b => SZ ≤ b) ?_ NW.out
      repeat (with_reducible first | exact X4.out | refine Lies.set ?_ NK.out _)
  · have HX1 := Lib.hid (show X = (er, nul, 0) by rw [HX.out, if_pos he])
    have hne : (er != 0) = true := by simpa using he
    have he' := Lib.hid he
    clear he
    have RM := Lib.hid (H2.out.mem (List.mem_cons_of_mem _ List.mem_cons_self))
    obtain ⟨u0, u1, u2, u3, u4, u5⟩ := RM.out.cells6
    have uf := RM.out.free
    have uz := RM.out.lt
    go_wp2_with fail
    refine bodyPost_ret (v := .tuple #[.agg nul6, .int .i64 er]) ?_ rfl (objPost_bad HX1.out he'.out ?_)
    · simp [results, Tryz.results123, go_sem, u0, u1, u2, u3, u4, u5]
    · repeat (with_reducible first | exact H2.out.g | refine gb_drew ?_ | refine gb_alloc ?_ _ | refine gb_fresh ?_ (Nat.le_refl _) _)

end Go.Proofs.YtbgdeaeikijdgaaGreatDoor

namespace Go.Proofs.YtbgdeaeikijdgaaGreatDoor
open Go.RowKit Cx

abbrev nul7 : Array Value := #[.string ⟨#[]⟩, .int .i64 0, .int .i64 0, .int .i64 0, .string ⟨#[]⟩, .slice none 0 0, .slice none 0 0]
theorem Blk.cells7 {w : World} {b : Nat} {v0 v1 v2 v3 v4 v5 v6 : Value} {t : TypeId} (h : Blk w b #[v0, v1, v2, v3, v4, v5, v6] t) : w.cell? ⟨b, 0, none⟩ = some v0 ∧ w.cell? ⟨b, 1, none⟩ = some v1 ∧ w.cell? ⟨b, 2, none⟩ = some v2 ∧ w.cell? ⟨b, 3, none⟩ = some v3 ∧ w.cell? ⟨b, 4, none⟩ = some v4 ∧ w.cell? ⟨b, 5, none⟩ = some v5 ∧ w.cell? ⟨b, 6, none⟩ = some v6 :=
  ⟨h.cell 0, h.cell 1, h.cell 2, h.cell 3, h.cell 4, h.cell 5, h.cell 6⟩

theorem entOf_eq (F : Nat) (l : List UInt8) (dep : Nat) (t : Lx.Tok) : entOf (F + 1) l dep t = if t.kind ≠ 2 then (3, (⟨#[]⟩, nul), 0) else
    if (objAt F l dep t.to).1 = 0 then (0, (str t.s, (objAt F l dep t.to).2.1), (objAt F l dep t.to).2.2) else ((objAt F l dep t.to).1, (⟨#[]⟩, nul), 0) := by
  rw [entOf, objAt]
  by_cases h2 : t.kind ≠ 2
  · rw [if_pos h2, if_pos h2]
  · rw [if_neg h2, if_neg h2]
    by_cases he : (Lx.nextV l (t.to : Int)).1 ≠ 0
    · rw [if_pos he, if_pos he, if_neg he]
    · rw [if_neg he, if_neg he]

theorem entPost_bad {s : ByteArray} {dep rb : Nat} {w w' : World} {er : Int} {X : Int × Entr × Nat} (hX : X = (er, (⟨#[]⟩, nul), 0)) (he : er ≠ 0) (g : w.grownBy w' (some rb)) :
    EntPost s dep rb w X (.returned (.tuple #[.agg #[.string ⟨#[]⟩, .int .i64 0, .int .i64 0, .int .i64 0, .string ⟨#[]⟩, .slice none 0 0, .slice none 0 0], .int .i64 er])) w' :=
  ⟨Hd.none, by rw [hX]; rfl, fun h => absurd (by rw [hX] at h; exact h) he, g, by rw [hX]; exact Lies.flat _ _ _ _ _ _ (Nat.zero_le _)⟩

set_option maxRecDepth 100000 in
set_option maxHeartbeats 4000000 in
theorem entryOf_any (F : Nat) (IH : ObjC F) : EntC (F + 1) := by
  intro s t dep rb w hs hm hto hr hF hdep
  have HIH := Lib.hid IH
  have HM := Lib.hid hm
  have HR := Lib.hid hr
  have H0 := Lib.hid (InR.start w hr.lt)
  have HX := Lib.hid (entOf_eq F s.data.toList dep t)
  obtain ⟨X, hX⟩ : ∃ X, X = entOf (F + 1) s.data.toList dep t := ⟨_, rfl⟩
  rw [← hX] at HX ⊢
  obtain ⟨XO, hXO⟩ : ∃ XO, XO = objAt F s.data.toList dep t.to := ⟨_, rfl⟩
  have HXO := Lib.hid hXO
  have HFF := Lib.hid (show (Lx.nextV s.data.toList (t.to : Int)).1 = 0 → 3 * (s.size - (Lx.nextV s.data.toList (t.to : Int)).2.to) + 2 ≤ F from fun h => by
    have := next_le s.data.toList t.to h
    omega)
  rw [← HXO.out] at HX
  clear IH hm hr hX hF hXO hto
  obtain ⟨kd, fv, st, wh, fr, tq⟩ := t
  unfold tkV
  simp only [] at HX HR HFF HXO ⊢
  have H1 := Lib.hid (InR.fresh' (k := w.heap.size + 1) (InR.fresh H0.out #[.int .i64 kd, .int .i64 fv, .string ⟨st.toArray⟩, .bool wh, .int .i64 fr, .int .i64 tq] 108) nul7 143 (by simp))
  have R1 := Lib.hid ((HR.out.alloc (.cells #[.int .i64 kd, .int .i64 fv, .string ⟨st.toArray⟩, .bool wh, .int .i64 fr, .int .i64 tq] 108)).alloc (.cells nul7 143))
  clear H0
  by_cases h2 : kd = 2
  · subst h2
    have HX1 := Lib.hid (show X = if XO.1 = 0 then (0, (str st, XO.2.1), XO.2.2) else (XO.1, (⟨#[]⟩, nul), 0) by rw [HX.out, if_neg (by simp)])
    have CO := object_any F HIH.out s (tq : Int) dep rb _ hs (HR.out.max HM.out H1.out.g) R1.out HFF.out hdep XO HXO.out
    have CO1 := Lib.hid CO
    clear CO
    obtain ⟨xe, xo, xk⟩ := XO
    simp only [] at HX1
    go_enter Tryz.func212, Tryz.ntmps212
    go_wp2_with fail
    (with_reducible refine CO1.out.mono ?_)
    rintro e w4 ⟨h, rfl, hr4, hg4, hx4⟩
    unfold objV
    simp only []
    have hlt2 := (H1.out.mem (List.mem_cons_self)).lt
    obtain ⟨SZ, hSZ⟩ : ∃ SZ, SZ = ((w.alloc (.cells #[.int .i64 2, .int .i64 fv, .string ⟨st.toArray⟩, .bool wh, .int .i64 fr, .int .i64 tq] 108)).alloc (.cells nul7 143)).heap.size := ⟨_, rfl⟩
    rw [← hSZ] at hx4 hlt2
    have X4 := Lib.hid hx4
    have NK := Lib.hid (show ∀ b, SZ ≤ b → b ≠ w.heap.size + 1 from fun b hb => by omega)
    have NW := Lib.hid (show ∀ b, SZ ≤ b → w.heap.size ≤ b from fun b hb => by omega)
    have R4 := Lib.hid hr4
    have H4 := Lib.hid (H1.out.gb hg4)
    have RM := Lib.hid (H4.out.mem List.mem_cons_self)
    have TM := Lib.hid (H4.out.mem (List.mem_cons_of_mem _ List.mem_cons_self))
    obtain ⟨u0, u1, u2, u3, u4, u5, u6⟩ := RM.out.cells7
    have uf := RM.out.free
    have uz := RM.out.lt
    obtain ⟨t0, t1, t2, t3, t4, t5⟩ := TM.out.cells6
    have tz := TM.out.lt
    have rne : w.heap.size + 1 ≠ rb := ((H4.out.2.1 _ List.mem_cons_self).2)
    clear hSZ hlt2 hr4 hg4 hx4
    by_cases hx : xe = 0
    · subst hx
      have HX2 := Lib.hid (show X = (0, (str st, xo), xk) by rw [HX1.out, if_pos rfl])
      go_wp2_with fail
      refine bodyPost_ret (v := .tuple #[.agg #[.string ⟨st.toArray⟩, .int .i64 xo.k, .int .i64 xo.n, .int .i64 xo.f, .string xo.s, .slice h.p xo.l.length h.c, .slice h.q xo.d.length h.e], .int .i64 0]) ?_ rfl ⟨h, by rw [HX2.out]; rfl, fun _ => ?_, ?_, ?_⟩
      · simp [results, Tryz.results212, go_sem, u0, u1, u2, u3, u4, u5, u6, uz]
      · have R5 := Lib.hid (R4.out (by trivial))
        rw [HX2.out]
        repeat (with_reducible first | exact R5.out | refine Rst.drew ?_ | refine Rst.alloc ?_ _ | refine Rst.other ?_ (Ne.symm rne) _)
      · repeat (with_reducible first | exact H4.out.g | refine gb_drew ?_ | refine gb_alloc ?_ _ | refine gb_fresh ?_ (Nat.le_succ _) _)
      · rw [HX2.out]
        refine Lies.weak (P := fun b => SZ ≤ b) ?_ NW.out
        repeat (with_reducible first | exact X4.out | refine Lies.set ?_ NK.out _ | refine Lies.alloc ?_ _)
    · have HX2 := Lib.hid (show X = (xe, (⟨#[]⟩, nul), 0) by rw [HX1.out, if_neg hx])
      have hne : (xe != 0) = true := by simpa using hx
      have he' := Lib.hid hx
      clear hx
      go_wp2_with fail
      refine bodyPost_ret (v := .tuple #[.agg nul7, .int .i64 xe]) ?_ rfl (entPost_bad HX2.out he'.out ?_)
      · simp [results, Tryz.results212, go_sem, u0, u1, u2, u3, u4, u5, u6, uz]
      · repeat (with_reducible first | exact H4.out.g | refine gb_drew ?_ | refine gb_alloc ?_ _ | refine gb_fresh ?_ (Nat.le_succ _) _)
  · have HX1 := Lib.hid (show X = (3, (⟨#[]⟩, nul), 0) by rw [HX.out, if_pos h2])
    have hne : (kd != 2) = true := by simpa using h2
    clear h2
    have RM := Lib.hid (H1.out.mem List.mem_cons_self)
    obtain ⟨u0, u1, u2, u3, u4, u5, u6⟩ := RM.out.cells7
    have uf := RM.out.free
    go_enter Tryz.func212, Tryz.ntmps212
    go_wp2_with fail
    refine bodyPost_ret (v := .tuple #[.agg nul7, .int .i64 3]) ?_ rfl (entPost_bad HX1.out (by decide) ?_)
    · simp [results, Tryz.results212, go_sem]
    · repeat (with_reducible first | exact gb_refl _ _ | refine gb_drew ?_ | refine gb_alloc ?_ _ | refine gb_fresh ?_ (Nat.le_succ _) _)

end Go.Proofs.YtbgdeaeikijdgaaGreatDoor

namespace Go.Proofs.YtbgdeaeikijdgaaGreatDoor
open Go.RowKit Cx

/-- What arrOf answers, behind the bracket. -/
def arrV (F : Nat) (l : List UInt8) (dep k : Nat) : Int × Ob × Nat :=
  if dep = 64 then (5, nul, 0) else if (upO F l (dep + 1) [] k).1 = 0 then (0, .mk 5 0 0 ⟨#[]⟩ (upO F l (dep + 1) [] k).2.1 [], (upO F l (dep + 1) [] k).2.2) else ((upO F l (dep + 1) [] k).1, nul, 0)
def dictV (F : Nat) (l : List UInt8) (dep k : Nat) : Int × Ob × Nat :=
  if dep = 64 then (5, nul, 0) else if (upE F l (dep + 1) [] k).1 = 0 then (0, .mk 6 0 0 ⟨#[]⟩ [] (Cx.settle (upE F l (dep + 1) [] k).2.1), (upE F l (dep + 1) [] k).2.2) else ((upE F l (dep + 1) [] k).1, nul, 0)

set_option maxRecDepth 100000 in
set_option maxHeartbeats 4000000 in
theorem arrOf_any (F : Nat) (IH : ∀ F', F' < F → ObjC F') (s : ByteArray) (k dep rb : Nat) (w : World) (hs : s.size ≤ 4294967295) (hm : HasMax w) (hr : Rst s (k : Int) (dep : Int) rb w) (hF : 3 * (s.size - k) + 1 ≤ F) (hk : k ≤ s.size) (hdep : dep ≤ 64)
    (X : Int × Ob × Nat) (hX : X = arrV F s.data.toList dep k) :
    Calls Tryz.prog 184 #[.pointer (some ⟨rb, 0, none⟩)] w (ObjPost s dep rb w X) := by
  have hmf : ∀ (fn : Fn) (first cap : Array Value) (w : World), (Instr.makeFunc fn first cap).run Tryz.prog w = .ok (.func fn first cap) w := fun _ _ _ _ => rfl
  have HIH := Lib.hid IH
  have HM := Lib.hid hm
  have HX := Lib.hid hX
  have H0 := Lib.hid (InR.start w hr.lt)
  have H1 := Lib.hid (InR.fresh H0.out nul6 43)
  have R1 := Lib.hid (hr.alloc (.cells nul6 43))
  have HR := Lib.hid hr
  have HMF := Lib.hid hmf
  clear IH hm hX H0 hr
  by_cases h64 : dep = 64
  · subst h64
    have HX1 := Lib.hid (show X = (5, nul, 0) by rw [HX.out, arrV, if_pos rfl])
    have RM := Lib.hid (H1.out.mem List.mem_cons_self)
    obtain ⟨u0, u1, u2, u3, u4, u5⟩ := RM.out.cells6
    have uf := RM.out.free
    go_enter Tryz.func184, Tryz.ntmps184
    go_wp2_with fail
    (with_reducible refine (upO_deep s (k : Int) rb _ _ R1.out).mono ?_)
    rintro e w2 ⟨rfl, rfl⟩
    go_wp2_with fail
    refine bodyPost_ret (v := .tuple #[.agg nul6, .int .i64 5]) ?_ rfl (objPost_bad HX1.out (by decide) ?_)
    · simp [results, Tryz.results184, go_sem]
    · repeat (with_reducible first | exact gb_refl _ _ | refine gb_drew ?_ | refine gb_alloc ?_ _ | refine gb_fresh ?_ (Nat.le_refl _) _)
  · obtain ⟨Y, hY⟩ : ∃ Y, Y = upO F s.data.toList (dep + 1) [] k := ⟨_, rfl⟩
    have HY := Lib.hid hY
    have HX1 := Lib.hid (show X = if Y.1 = 0 then (0, .mk 5 0 0 ⟨#[]⟩ Y.2.1 [], Y.2.2) else (Y.1, nul, 0) by rw [HX.out, arrV, if_neg h64, hY])
    have CU := Lib.hid (upO_any F HIH.out s k dep rb _ hs (HR.out.max HM.out H1.out.g) R1.out hF hk (by omega) Y hY)
    have hlt1 := (H1.out.mem List.mem_cons_self).lt
    clear hY h64
    obtain ⟨ye, yl, yk⟩ := Y
    simp only [] at HX1
    go_enter Tryz.func184, Tryz.ntmps184
    go_wp2_with fail
    (with_reducible refine CU.out.mono ?_)
    rintro e w2 ⟨hg2, hor⟩
    obtain ⟨SZ, hSZ⟩ : ∃ SZ, SZ = (w.alloc (.cells nul6 43)).heap.size := ⟨_, rfl⟩
    have H2 := Lib.hid (H1.out.gb hg2)
    rw [← hSZ] at hor hlt1
    have NK := Lib.hid (show ∀ b, SZ ≤ b → b ≠ w.heap.size from fun b hb => by omega)
    have NW := Lib.hid (show ∀ b, SZ ≤ b → w.heap.size ≤ b from fun b hb => by omega)
    have RM := Lib.hid (H2.out.mem List.mem_cons_self)
    obtain ⟨u0, u1, u2, u3, u4, u5⟩ := RM.out.cells6
    have uf := RM.out.free
    have uz := RM.out.lt
    have rne : w.heap.size ≠ rb := ((H2.out.2.1 _ List.mem_cons_self).2)
    clear hSZ hlt1 hg2
    rcases hor with ⟨hy0, acc, p, cap, rfl, hmap, hacc, hown, hr2⟩ | ⟨hy0, rfl⟩
    · simp only [] at hy0 hmap hr2
      subst hy0
      have HX2 := Lib.hid (show X = (0, .mk 5 0 0 ⟨#[]⟩ (acc.map (·.1)) [], yk) by rw [HX1.out, if_pos rfl, hmap])
      have L2 := Lib.hid (hown.arr (by unfold maxLen; omega) 5 0 0)
      have R2 := Lib.hid hr2
      clear hmap hown hr2
      go_wp2_with fail
      refine bodyPost_ret (v := .tuple #[.agg #[.int .i64 5, .int .i64 0, .int .i64 0, .string ⟨#[]⟩, .slice p acc.length cap, .slice none 0 0], .int .i64 0]) ?_ rfl ⟨⟨p, cap, none, 0⟩, by rw [HX2.out]; unfold objV; simp only [Ob.k, Ob.n, Ob.f, Ob.s, Ob.l, Ob.d, List.length_map, List.length_nil], fun _ => ?_, ?_, ?_⟩
      · simp [results, Tryz.results184, go_sem, u0, u1, u2, u3, u4, u5]
      · rw [HX2.out]
        repeat (with_reducible first | exact R2.out | refine Rst.drew ?_ | refine Rst.alloc ?_ _ | refine Rst.other ?_ (Ne.symm rne) _)
      · repeat (with_reducible first | exact H2.out.g | refine gb_drew ?_ | refine gb_alloc ?_ _ | refine gb_fresh ?_ (Nat.le_refl _) _)
      · rw [HX2.out]
        refine Lies.weak (P := fun b => SZ ≤ b) ?_ NW.out
        repeat (with_reducible first | exact L2.out | refine Lies.set ?_ NK.out _ | refine Lies.alloc ?_ _)
    · simp only [] at hy0
      have HX2 := Lib.hid (show X = (ye, nul, 0) by rw [HX1.out, if_neg hy0])
      have hne : (ye != 0) = true := by simpa using hy0
      have he' := Lib.hid hy0
      clear hy0
      go_wp2_with fail
      refine bodyPost_ret (v := .tuple #[.agg nul6, .int .i64 ye]) ?_ rfl (objPost_bad HX2.out he'.out ?_)
      · simp [results, Tryz.results184, go_sem, u0, u1, u2, u3, u4, u5]
      · repeat (with_reducible first | exact H2.out.g | refine gb_drew ?_ | refine gb_alloc ?_ _ | refine gb_fresh ?_ (Nat.le_refl _) _)

/-- What settled answers. -/
def SetC : Prop := ∀ (acc : List (Entr × Hd)) (p : Option Addr) (cap N : Nat) (w : World), OwnK KE N w (.slice p acc.length cap) acc → acc.length ≤ 1024 → (∀ r ∈ acc, r.1.1.size ≤ maxLen) →
  Calls Tryz.prog 213 #[.slice p acc.length cap] w fun e w' => ∃ (out : List (Entr × Hd)) (q : Option Addr) (c : Nat), e = .returned (.slice q out.length c) ∧ Kept w w' ∧ out.map (·.1) = Cx.settle (acc.map (·.1)) ∧ out.length ≤ 1024 ∧ (∀ r ∈ out, r.1.1.size ≤ maxLen) ∧ OwnK KE N w' (.slice q out.length c) out

theorem entOf_key (l : List UInt8) (F dep : Nat) (t : Lx.Tok) (ht : t.s.length ≤ l.length) : (entOf F l dep t).2.1.1.size ≤ l.length := by
  cases F with
  | zero => rw [entOf]; exact Nat.zero_le _
  | succ F =>
    rw [entOf]
    split
    · exact Nat.zero_le _
    · split
      · exact Nat.zero_le _
      · split
        · exact ht
        · exact Nat.zero_le _
theorem upE_keys (l : List UInt8) : ∀ (F dep : Nat) (acc : List Entr) (k : Nat), (∀ e ∈ acc, e.1.size ≤ l.length) → ∀ e ∈ (upE F l dep acc k).2.1, e.1.size ≤ l.length
  | 0, _, _, _, _ => by rw [upE]; intro e he; simp at he
  | F + 1, dep, acc, k, h => by
    rw [upE]
    split
    · intro e he; simp at he
    · split
      · exact h
      · split
        · intro e he; simp at he
        · split
          · intro e he; simp at he
          · split
            · refine upE_keys l F dep _ _ fun e he => ?_
              rcases List.mem_append.1 he with he | he
              · exact h e he
              · rw [List.mem_singleton.1 he]; exact entOf_key l F dep _ (Lx.next_len l k).2.2
            · intro e he; simp at he

set_option maxRecDepth 100000 in
set_option maxHeartbeats 4000000 in
theorem dictOf_any (HSET : SetC) (F : Nat) (IH : ∀ F', F' < F → EntC F') (s : ByteArray) (k dep rb : Nat) (w : World) (hs : s.size ≤ 4294967295) (hm : HasMax w) (hr : Rst s (k : Int) (dep : Int) rb w) (hF : 3 * (s.size - k) + 1 ≤ F) (hk : k ≤ s.size) (hdep : dep ≤ 64)
    (X : Int × Ob × Nat) (hX : X = dictV F s.data.toList dep k) :
    Calls Tryz.prog 185 #[.pointer (some ⟨rb, 0, none⟩)] w (ObjPost s dep rb w X) := by
  have hmf : ∀ (fn : Fn) (first cap : Array Value) (w : World), (Instr.makeFunc fn first cap).run Tryz.prog w = .ok (.func fn first cap) w := fun _ _ _ _ => rfl
  have HIH := Lib.hid IH
  have HM := Lib.hid hm
  have HX := Lib.hid hX
  have H0 := Lib.hid (InR.start w hr.lt)
  have H1 := Lib.hid (InR.fresh H0.out nul6 43)
  have R1 := Lib.hid (hr.alloc (.cells nul6 43))
  have HR := Lib.hid hr
  have HMF := Lib.hid hmf
  clear IH hm hX H0 hr
  by_cases h64 : dep = 64
  · subst h64
    have HX1 := Lib.hid (show X = (5, nul, 0) by rw [HX.out, dictV, if_pos rfl])
    have RM := Lib.hid (H1.out.mem List.mem_cons_self)
    obtain ⟨u0, u1, u2, u3, u4, u5⟩ := RM.out.cells6
    have uf := RM.out.free
    go_enter Tryz.func185, Tryz.ntmps185
    go_wp2_with fail
    (with_reducible refine (upE_deep s (k : Int) rb _ _ R1.out).mono ?_)
    rintro e w2 ⟨rfl, rfl⟩
    go_wp2_with fail
    refine bodyPost_ret (v := .tuple #[.agg nul6, .int .i64 5]) ?_ rfl (objPost_bad HX1.out (by decide) ?_)
    · simp [results, Tryz.results185, go_sem]
    · repeat (with_reducible first | exact gb_refl _ _ | refine gb_drew ?_ | refine gb_alloc ?_ _ | refine gb_fresh ?_ (Nat.le_refl _) _)
  · obtain ⟨Y, hY⟩ : ∃ Y, Y = upE F s.data.toList (dep + 1) [] k := ⟨_, rfl⟩
    have HY := Lib.hid hY
    have HX1 := Lib.hid (show X = if Y.1 = 0 then (0, .mk 6 0 0 ⟨#[]⟩ [] (Cx.settle Y.2.1), Y.2.2) else (Y.1, nul, 0) by rw [HX.out, dictV, if_neg h64, hY])
    have CU := Lib.hid (upE_any F HIH.out s k dep rb _ hs (HR.out.max HM.out H1.out.g) R1.out hF hk (by omega) Y hY)
    have hlt1 := (H1.out.mem List.mem_cons_self).lt
    clear hY h64
    obtain ⟨ye, yl, yk⟩ := Y
    simp only [] at HX1
    go_enter Tryz.func185, Tryz.ntmps185
    go_wp2_with fail
    (with_reducible refine CU.out.mono ?_)
    rintro e w2 ⟨hg2, hor⟩
    obtain ⟨SZ, hSZ⟩ : ∃ SZ, SZ = (w.alloc (.cells nul6 43)).heap.size := ⟨_, rfl⟩
    have H2 := Lib.hid (H1.out.gb hg2)
    rw [← hSZ] at hor hlt1
    have NK := Lib.hid (show ∀ b, SZ ≤ b → b ≠ w.heap.size from fun b hb => by omega)
    have NW := Lib.hid (show ∀ b, SZ ≤ b → w.heap.size ≤ b from fun b hb => by omega)
    have RM := Lib.hid (H2.out.mem List.mem_cons_self)
    obtain ⟨u0, u1, u2, u3, u4, u5⟩ := RM.out.cells6
    have uf := RM.out.free
    have uz := RM.out.lt
    have rne : w.heap.size ≠ rb := ((H2.out.2.1 _ List.mem_cons_self).2)
    clear hSZ hlt1 hg2
    rcases hor with ⟨hy0, acc, p, cap, rfl, hmap, hacc, hown, hr2⟩ | ⟨hy0, rfl⟩
    · simp only [] at hy0 hmap hr2
      subst hy0
      have R2 := Lib.hid hr2
      have hk0 : ∀ r ∈ acc, r.1.1.size ≤ maxLen := fun r hr => by
        have h1 := upE_keys s.data.toList F (dep + 1) [] k (fun _ h => absurd h List.not_mem_nil) r.1 (by rw [← HY.out, ← hmap]; exact List.mem_map_of_mem hr)
        have h2 : s.data.toList.length = s.size := by simp
        unfold maxLen; omega
      have HXa := Lib.hid (show X = (0, .mk 6 0 0 ⟨#[]⟩ [] (Cx.settle yl), yk) by rw [HX1.out, if_pos rfl])
      have CS := Lib.hid (HSET acc p cap SZ w2 hown hacc hk0)
      rw [hmap] at CS
      clear hmap hown hr2 hk0
      go_wp2_with fail
      (with_reducible refine CS.out.mono ?_)
      rintro e w3 ⟨out, q, c, rfl, hk3, hmap3, hlen3, hks, hown3⟩
      have HX2 := Lib.hid (show X = (0, .mk 6 0 0 ⟨#[]⟩ [] (out.map (·.1)), yk) by rw [HXa.out, hmap3])
      have L2 := Lib.hid (hown3.dict (by unfold maxLen; omega) hks 6 0 0)
      have H3 := Lib.hid (H2.out.kept hk3)
      have R3 := Lib.hid (R2.out.kept hk3)
      have RM3 := Lib.hid (H3.out.mem List.mem_cons_self)
      clear hmap3 hown3 hk3 hks u0 u1 u2 u3 u4 u5 uf uz
      obtain ⟨u0, u1, u2, u3, u4, u5⟩ := RM3.out.cells6
      have uf := RM3.out.free
      have uz := RM3.out.lt
      go_wp2_with fail
      refine bodyPost_ret (v := .tuple #[.agg #[.int .i64 6, .int .i64 0, .int .i64 0, .string ⟨#[]⟩, .slice none 0 0, .slice q out.length c], .int .i64 0]) ?_ rfl ⟨⟨none, 0, q, c⟩, by rw [HX2.out]; unfold objV; simp only [Ob.k, Ob.n, Ob.f, Ob.s, Ob.l, Ob.d, List.length_map, List.length_nil], fun _ => ?_, ?_, ?_⟩
      · simp [results, Tryz.results185, go_sem, u0, u1, u2, u3, u4, u5]
      · rw [HX2.out]
        repeat (with_reducible first | exact R3.out | refine Rst.drew ?_ | refine Rst.alloc ?_ _ | refine Rst.other ?_ (Ne.symm rne) _)
      · repeat (with_reducible first | exact H3.out.g | refine gb_drew ?_ | refine gb_alloc ?_ _ | refine gb_fresh ?_ (Nat.le_refl _) _)
      · rw [HX2.out]
        refine Lies.weak (P := fun b => SZ ≤ b) ?_ NW.out
        repeat (with_reducible first | exact L2.out | refine Lies.set ?_ NK.out _ | refine Lies.alloc ?_ _)
    · simp only [] at hy0
      have HX2 := Lib.hid (show X = (ye, nul, 0) by rw [HX1.out, if_neg hy0])
      have hne : (ye != 0) = true := by simpa using hy0
      have he' := Lib.hid hy0
      clear hy0
      go_wp2_with fail
      refine bodyPost_ret (v := .tuple #[.agg nul6, .int .i64 ye]) ?_ rfl (objPost_bad HX2.out he'.out ?_)
      · simp [results, Tryz.results185, go_sem, u0, u1, u2, u3, u4, u5]
      · repeat (with_reducible first | exact H2.out.g | refine gb_drew ?_ | refine gb_alloc ?_ _ | refine gb_fresh ?_ (Nat.le_refl _) _)

end Go.Proofs.YtbgdeaeikijdgaaGreatDoor

namespace Go.Proofs.YtbgdeaeikijdgaaGreatDoor
open Go.RowKit Cx

theorem objOf_eq (F : Nat) (l : List UInt8) (dep : Nat) (t : Lx.Tok) : objOf (F + 1) l dep t =
    if t.kind = 0 then (4, nul, 0) else if t.kind = 1 then (0, (numberV l t).1, (numberV l t).2) else if t.kind = 2 then (0, .mk 3 0 0 (str t.s) [] [], t.to) else if t.kind = 3 then (0, .mk 4 0 0 (str t.s) [] [], t.to)
    else if t.kind = 8 then ((wordV t.s).1, (wordV t.s).2, if (wordV t.s).1 = 0 then t.to else 0) else if t.kind = 4 then arrV F l dep t.to else if t.kind = 6 then dictV F l dep t.to else (3, nul, 0) := by
  rw [objOf]; rfl

theorem wordV_flat (s : List UInt8) : ∃ k n, (wordV s).2 = .mk k n 0 ⟨#[]⟩ [] [] ∧ ((wordV s).1 = 0 ∨ (wordV s).2 = nul) := by
  unfold wordV
  split
  · exact ⟨_, _, rfl, .inl rfl⟩
  · split
    · exact ⟨_, _, rfl, .inl rfl⟩
    · split
      · exact ⟨0, 0, rfl, .inl rfl⟩
      · exact ⟨0, 0, rfl, .inr rfl⟩
theorem numberV_flat (l : List UInt8) (t : Lx.Tok) : ∃ k n f, (numberV l t).1 = .mk k n f ⟨#[]⟩ [] [] := by
  unfold numberV numV
  split
  · split
    · split
      · exact ⟨_, _, _, rfl⟩
      · exact ⟨_, _, _, rfl⟩
    · exact ⟨_, _, _, rfl⟩
  · exact ⟨_, _, _, rfl⟩

set_option maxRecDepth 100000 in
set_option maxHeartbeats 8000000 in
theorem objectOf_step (HSET : SetC) (F : Nat) (IH : ∀ F', F' < F + 1 → ObjC F') : ObjC (F + 1) := by
  intro s t dep rb w hs hm hto hr hF hdep
  have IHE : ∀ F', F' < F → EntC F' := fun F' h => by
    cases F' with
    | zero => intro s t dep rb w _ _ _ _ hF _; omega
    | succ F' => exact entryOf_any F' (IH F' (by omega))
  have CA := Lib.hid (fun (w' : World) (hm' : HasMax w') (hr' : Rst s (t.to : Int) (dep : Int) rb w') => arrOf_any F (fun F' h => IH F' (by omega)) s t.to dep rb w' hs hm' hr' (by omega) hto.1 hdep _ rfl)
  have CD := Lib.hid (fun (w' : World) (hm' : HasMax w') (hr' : Rst s (t.to : Int) (dep : Int) rb w') => dictOf_any HSET F IHE s t.to dep rb w' hs hm' hr' (by omega) hto.1 hdep _ rfl)
  have CN := Lib.hid (fun (w' : World) (hm' : HasMax w') (hr' : Rst s (t.to : Int) (dep : Int) rb w') => numberOf_any t s (dep : Int) rb w' hs hm' hr' (by have := hto.2.1; omega) (by have := hto.2.1; omega))
  have CW := Lib.hid (fun w' => wordOf_any t w')
  have HM := Lib.hid hm
  have HR := Lib.hid hr
  have HX := Lib.hid (objOf_eq F s.data.toList dep t)
  obtain ⟨X, hX⟩ : ∃ X, X = objOf (F + 1) s.data.toList dep t := ⟨_, rfl⟩
  rw [← hX] at HX ⊢
  have H0 := Lib.hid (InR.start w hr.lt)
  have LS := Lib.hid (show t.s.length ≤ maxLen by have := hto.2.2; unfold maxLen; omega)
  clear IH IHE hm hr hX hto hF
  have HWF := Lib.hid (wordV_flat t.s)
  have HNF := Lib.hid (numberV_flat s.data.toList t)
  obtain ⟨kd, fv, st, wh, fr, tq⟩ := t
  unfold tkV at CN CW ⊢
  simp only [] at HX HR CA CD CN CW LS HWF ⊢
  have H1 := Lib.hid (InR.fresh' (k := w.heap.size + 1) (InR.fresh H0.out #[.int .i64 kd, .int .i64 fv, .string ⟨st.toArray⟩, .bool wh, .int .i64 fr, .int .i64 tq] 108) nul6 43 (by simp))
  have R1 := Lib.hid ((HR.out.alloc (.cells #[.int .i64 kd, .int .i64 fv, .string ⟨st.toArray⟩, .bool wh, .int .i64 fr, .int .i64 tq] 108)).alloc (.cells nul6 43))
  clear H0
  have M1 := Lib.hid (HR.out.max HM.out H1.out.g)
  have rne : w.heap.size + 1 ≠ rb := ((H1.out.2.1 _ List.mem_cons_self).2)
  by_cases h0 : kd = 0
  · subst h0
    have HX1 := Lib.hid (show X = (4, nul, 0) by rw [HX.out, if_pos rfl])
    go_enter Tryz.func155, Tryz.ntmps155
    go_wp2_with fail
    refine bodyPost_ret (v := .tuple #[.agg nul6, .int .i64 4]) ?_ rfl (objPost_bad HX1.out (by decide) ?_)
    · simp [results, Tryz.results155, go_sem]
    · repeat (with_reducible first | exact gb_refl _ _ | refine gb_drew ?_ | refine gb_alloc ?_ _ | refine gb_fresh ?_ (Nat.le_succ _) _)
  have e0 : (kd == 0) = false := by rw [beq_eq_false_iff_ne]; exact h0
  by_cases h1 : kd = 1
  · subst h1
    obtain ⟨nk, nn, nf, hnf⟩ := HNF.out
    have HX1 := Lib.hid (show X = (0, .mk nk nn nf ⟨#[]⟩ [] [], (numberV s.data.toList ⟨1, fv, st, wh, fr, tq⟩).2) by rw [HX.out, if_neg h0, if_pos rfl, hnf])
    have CN1 := CN.out _ M1.out R1.out
    rw [hnf] at CN1
    unfold objV Hd.none at CN1
    simp only [Ob.k, Ob.n, Ob.f, Ob.s, Ob.l, Ob.d, List.length_nil] at CN1
    have CN2 := Lib.hid CN1
    clear CN1 hnf
    obtain ⟨NQ, hNQ⟩ : ∃ NQ, NQ = (numberV s.data.toList ⟨1, fv, st, wh, fr, tq⟩).2 := ⟨_, rfl⟩
    rw [← hNQ] at HX1 CN2
    clear hNQ
    go_enter Tryz.func155, Tryz.ntmps155
    go_wp2_with fail
    (with_reducible refine CN2.out.mono ?_)
    rintro e w2 ⟨rfl, hr2, hg2⟩
    have H2 := Lib.hid (H1.out.gb hg2)
    have R2 := Lib.hid hr2
    clear hr2 hg2
    have RM := Lib.hid (H2.out.mem List.mem_cons_self)
    obtain ⟨u0, u1, u2, u3, u4, u5⟩ := RM.out.cells6
    have uf := RM.out.free
    have uz := RM.out.lt
    go_wp2_with fail
    refine bodyPost_ret (v := .tuple #[.agg #[.int .i64 nk, .int .i64 nn, .int .i64 nf, .string ⟨#[]⟩, .slice none 0 0, .slice none 0 0], .int .i64 0]) ?_ rfl (objPost_good (h := Hd.none) HX1.out ?_ ?_ (Lies.flat _ _ _ _ _ _ (Nat.zero_le _)))
    · simp [results, Tryz.results155, go_sem, u0, u1, u2, u3, u4, u5]
    · repeat (with_reducible first | exact R2.out | refine Rst.drew ?_ | refine Rst.alloc ?_ _ | refine Rst.other ?_ (Ne.symm rne) _)
    · repeat (with_reducible first | exact H2.out.g | refine gb_drew ?_ | refine gb_alloc ?_ _ | refine gb_fresh ?_ (Nat.le_succ _) _)
  have e1 : (kd == 1) = false := by rw [beq_eq_false_iff_ne]; exact h1
  by_cases h2 : kd = 2
  · subst h2
    have HX1 := Lib.hid (show X = (0, .mk 3 0 0 (str st) [] [], tq) by rw [HX.out, if_neg h0, if_neg h1, if_pos rfl])
    go_enter Tryz.func155, Tryz.ntmps155
    go_wp2_with fail
    have CWD := cosWord_any ⟨st.toArray⟩
    unfold objV Hd.none at CWD
    simp only [Ob.k, Ob.n, Ob.f, Ob.s, Ob.l, Ob.d, List.length_nil] at CWD
    (with_reducible refine (CWD _).mono ?_)
    rintro e w2 ⟨rfl, hk2⟩
    have H2 := Lib.hid (H1.out.kept hk2)
    have R2 := Lib.hid (R1.out.kept hk2)
    clear hk2 CWD
    have RM := Lib.hid (H2.out.mem List.mem_cons_self)
    obtain ⟨u0, u1, u2, u3, u4, u5⟩ := RM.out.cells6
    have uf := RM.out.free
    have uz := RM.out.lt
    go_wp2_with fail
    refine bodyPost_ret (v := .tuple #[.agg #[.int .i64 3, .int .i64 0, .int .i64 0, .string ⟨st.toArray⟩, .slice none 0 0, .slice none 0 0], .int .i64 0]) ?_ rfl (objPost_good (h := Hd.none) HX1.out ?_ ?_ (Lies.flat _ _ _ _ _ _ LS.out))
    · simp [results, Tryz.results155, go_sem, u0, u1, u2, u3, u4, u5]
    · repeat (with_reducible first | exact R2.out | refine Rst.drew ?_ | refine Rst.alloc ?_ _ | refine Rst.other ?_ (Ne.symm rne) _)
    · repeat (with_reducible first | exact H2.out.g | refine gb_drew ?_ | refine gb_alloc ?_ _ | refine gb_fresh ?_ (Nat.le_succ _) _)
  have e2 : (kd == 2) = false := by rw [beq_eq_false_iff_ne]; exact h2
  by_cases h3 : kd = 3
  · subst h3
    have HX1 := Lib.hid (show X = (0, .mk 4 0 0 (str st) [] [], tq) by rw [HX.out, if_neg h0, if_neg h1, if_neg h2, if_pos rfl])
    go_enter Tryz.func155, Tryz.ntmps155
    go_wp2_with fail
    refine bodyPost_ret (v := .tuple #[.agg #[.int .i64 4, .int .i64 0, .int .i64 0, .string ⟨st.toArray⟩, .slice none 0 0, .slice none 0 0], .int .i64 0]) ?_ rfl (objPost_good (h := Hd.none) HX1.out ?_ ?_ (Lies.flat _ _ _ _ _ _ LS.out))
    · simp [results, Tryz.results155, go_sem]
    · repeat (with_reducible first | exact HR.out | refine Rst.drew ?_ | refine Rst.alloc ?_ _ | refine Rst.other ?_ (Ne.symm rne) _)
    · repeat (with_reducible first | exact gb_refl _ _ | refine gb_drew ?_ | refine gb_alloc ?_ _ | refine gb_fresh ?_ (Nat.le_succ _) _)
  have e3 : (kd == 3) = false := by rw [beq_eq_false_iff_ne]; exact h3
  by_cases h8 : kd = 8
  · subst h8
    obtain ⟨wk, wn, hwf, hwo⟩ := HWF.out
    obtain ⟨we, hwe⟩ : ∃ we, we = (wordV st).1 := ⟨_, rfl⟩
    have HX1 := Lib.hid (show X = (we, .mk wk wn 0 ⟨#[]⟩ [] [], if we = 0 then tq else 0) by rw [HX.out, if_neg h0, if_neg h1, if_neg h2, if_neg h3, if_pos rfl, hwf, hwe])
    have CW1 := CW.out
    rw [hwf, ← hwe] at CW1
    unfold objV Hd.none at CW1
    simp only [Ob.k, Ob.n, Ob.f, Ob.s, Ob.l, Ob.d, List.length_nil] at CW1
    have CW2 := Lib.hid CW1
    clear CW1 hwf hwo hwe
    go_enter Tryz.func155, Tryz.ntmps155
    go_wp2_with fail
    (with_reducible refine (CW2.out _).mono ?_)
    rintro e w2 ⟨rfl, hk2⟩
    have H2 := Lib.hid (H1.out.kept hk2)
    have R2 := Lib.hid (R1.out.kept hk2)
    clear hk2
    have RM := Lib.hid (H2.out.mem List.mem_cons_self)
    obtain ⟨u0, u1, u2, u3, u4, u5⟩ := RM.out.cells6
    have uf := RM.out.free
    have uz := RM.out.lt
    go_wp2_with fail
    refine bodyPost_ret (v := .tuple #[.agg #[.int .i64 wk, .int .i64 wn, .int .i64 0, .string ⟨#[]⟩, .slice none 0 0, .slice none 0 0], .int .i64 we]) ?_ rfl ⟨Hd.none, by rw [HX1.out]; rfl, fun h0 => ?_, ?_, by rw [HX1.out]; exact Lies.flat _ _ _ _ _ _ (Nat.zero_le _)⟩
    · simp [results, Tryz.results155, go_sem, u0, u1, u2, u3, u4, u5]
    · rw [HX1.out] at h0 ⊢
      simp only [] at h0 ⊢
      rw [if_pos h0]
      repeat (with_reducible first | exact R2.out | refine Rst.drew ?_ | refine Rst.alloc ?_ _ | refine Rst.other ?_ (Ne.symm rne) _)
    · repeat (with_reducible first | exact H2.out.g | refine gb_drew ?_ | refine gb_alloc ?_ _ | refine gb_fresh ?_ (Nat.le_succ _) _)
  have e8 : (kd == 8) = false := by rw [beq_eq_false_iff_ne]; exact h8
  by_cases h4 : kd = 4
  · subst h4
    have HX1 := Lib.hid (show X = arrV F s.data.toList dep tq by rw [HX.out, if_neg h0, if_neg h1, if_neg h2, if_neg h3, if_neg h8, if_pos rfl])
    have C1 := CA.out _ M1.out R1.out
    rw [← HX1.out] at C1
    have C2 := Lib.hid C1
    have hlt1 := (H1.out.mem List.mem_cons_self).lt
    clear C1
    obtain ⟨xe, xo, xk⟩ := X
    go_enter Tryz.func155, Tryz.ntmps155
    go_wp2_with fail
    (with_reducible refine C2.out.mono ?_)
    rintro e w2 ⟨h, rfl, hr2, hg2, hx2⟩
    unfold objV
    simp only []
    obtain ⟨SZ, hSZ⟩ : ∃ SZ, SZ = ((w.alloc (.cells #[.int .i64 4, .int .i64 fv, .string ⟨st.toArray⟩, .bool wh, .int .i64 fr, .int .i64 tq] 108)).alloc (.cells nul6 43)).heap.size := ⟨_, rfl⟩
    rw [← hSZ] at hx2 hlt1
    have X2 := Lib.hid hx2
    have NK := Lib.hid (show ∀ b, SZ ≤ b → b ≠ w.heap.size + 1 from fun b hb => by omega)
    have NW := Lib.hid (show ∀ b, SZ ≤ b → w.heap.size ≤ b from fun b hb => by omega)
    have H2 := Lib.hid (H1.out.gb hg2)
    have R2 := Lib.hid hr2
    clear hSZ hlt1 hr2 hg2 hx2
    have RM := Lib.hid (H2.out.mem List.mem_cons_self)
    obtain ⟨u0, u1, u2, u3, u4, u5⟩ := RM.out.cells6
    have uf := RM.out.free
    have uz := RM.out.lt
    go_wp2_with fail
    refine bodyPost_ret (v := .tuple #[.agg #[.int .i64 xo.k, .int .i64 xo.n, .int .i64 xo.f, .string xo.s, .slice h.p xo.l.length h.c, .slice h.q xo.d.length h.e], .int .i64 xe]) ?_ rfl ⟨h, rfl, fun h0 => ?_, ?_, ?_⟩
    · simp [results, Tryz.results155, go_sem, u0, u1, u2, u3, u4, u5]
    · have R5 := Lib.hid (R2.out h0)
      repeat (with_reducible first | exact R5.out | refine Rst.drew ?_ | refine Rst.alloc ?_ _ | refine Rst.other ?_ (Ne.symm rne) _)
    · repeat (with_reducible first | exact H2.out.g | refine gb_drew ?_ | refine gb_alloc ?_ _ | refine gb_fresh ?_ (Nat.le_succ _) _)
    · refine Lies.weak (P := fun b => SZ ≤ b) ?_ NW.out
      repeat (with_reducible first | exact X2.out | refine Lies.set ?_ NK.out _ | refine Lies.alloc ?_ _)
  have e4 : (kd == 4) = false := by rw [beq_eq_false_iff_ne]; exact h4
  by_cases h6 : kd = 6
  · subst h6
    have HX1 := Lib.hid (show X = dictV F s.data.toList dep tq by rw [HX.out, if_neg h0, if_neg h1, if_neg h2, if_neg h3, if_neg h8, if_neg h4, if_pos rfl])
    have C1 := CD.out _ M1.out R1.out
    rw [← HX1.out] at C1
    have C2 := Lib.hid C1
    have hlt1 := (H1.out.mem List.mem_cons_self).lt
    clear C1
    obtain ⟨xe, xo, xk⟩ := X
    go_enter Tryz.func155, Tryz.ntmps155
    go_wp2_with fail
    (with_reducible refine C2.out.mono ?_)
    rintro e w2 ⟨h, rfl, hr2, hg2, hx2⟩
    unfold objV
    simp only []
    obtain ⟨SZ, hSZ⟩ : ∃ SZ, SZ = ((w.alloc (.cells #[.int .i64 6, .int .i64 fv, .string ⟨st.toArray⟩, .bool wh, .int .i64 fr, .int .i64 tq] 108)).alloc (.cells nul6 43)).heap.size := ⟨_, rfl⟩
    rw [← hSZ] at hx2 hlt1
    have X2 := Lib.hid hx2
    have NK := Lib.hid (show ∀ b, SZ ≤ b → b ≠ w.heap.size + 1 from fun b hb => by omega)
    have NW := Lib.hid (show ∀ b, SZ ≤ b → w.heap.size ≤ b from fun b hb => by omega)
    have H2 := Lib.hid (H1.out.gb hg2)
    have R2 := Lib.hid hr2
    clear hSZ hlt1 hr2 hg2 hx2
    have RM := Lib.hid (H2.out.mem List.mem_cons_self)
    obtain ⟨u0, u1, u2, u3, u4, u5⟩ := RM.out.cells6
    have uf := RM.out.free
    have uz := RM.out.lt
    go_wp2_with fail
    refine bodyPost_ret (v := .tuple #[.agg #[.int .i64 xo.k, .int .i64 xo.n, .int .i64 xo.f, .string xo.s, .slice h.p xo.l.length h.c, .slice h.q xo.d.length h.e], .int .i64 xe]) ?_ rfl ⟨h, rfl, fun h0 => ?_, ?_, ?_⟩
    · simp [results, Tryz.results155, go_sem, u0, u1, u2, u3, u4, u5]
    · have R5 := Lib.hid (R2.out h0)
      repeat (with_reducible first | exact R5.out | refine Rst.drew ?_ | refine Rst.alloc ?_ _ | refine Rst.other ?_ (Ne.symm rne) _)
    · repeat (with_reducible first | exact H2.out.g | refine gb_drew ?_ | refine gb_alloc ?_ _ | refine gb_fresh ?_ (Nat.le_succ _) _)
    · refine Lies.weak (P := fun b => SZ ≤ b) ?_ NW.out
      repeat (with_reducible first | exact X2.out | refine Lies.set ?_ NK.out _ | refine Lies.alloc ?_ _)
  have e6 : (kd == 6) = false := by rw [beq_eq_false_iff_ne]; exact h6
  have HX1 := Lib.hid (show X = (3, nul, 0) by rw [HX.out, if_neg h0, if_neg h1, if_neg h2, if_neg h3, if_neg h8, if_neg h4, if_neg h6])
  clear h0 h1 h2 h3 h8 h4 h6
  go_enter Tryz.func155, Tryz.ntmps155
  go_wp2_with fail
  refine bodyPost_ret (v := .tuple #[.agg nul6, .int .i64 3]) ?_ rfl (objPost_bad HX1.out (by decide) ?_)
  · simp [results, Tryz.results155, go_sem]
  · repeat (with_reducible first | exact gb_refl _ _ | refine gb_drew ?_ | refine gb_alloc ?_ _ | refine gb_fresh ?_ (Nat.le_succ _) _)

theorem obj_all (HSET : SetC) (F : Nat) : ∀ F', F' < F → ObjC F' := by
  induction F with
  | zero => intro F' h; omega
  | succ F ih =>
    intro F' h
    by_cases e : F' < F
    · exact ih F' e
    · obtain rfl : F' = F := by omega
      cases F' with
      | zero => intro s t dep rb w _ _ _ _ hF _; omega
      | succ F => exact objectOf_step HSET F ih
theorem objC_any (HSET : SetC) (F : Nat) : ObjC F := obj_all HSET (F + 1) F (by omega)

end Go.Proofs.YtbgdeaeikijdgaaGreatDoor

namespace Go.Proofs.YtbgdeaeikijdgaaGreatDoor
open Go.RowKit Cx

theorem objOf_err (F : Nat) (l : List UInt8) (dep : Nat) (t : Lx.Tok) (h : (objOf F l dep t).1 ≠ 0) : (objOf F l dep t).2 = (nul, 0) := by
  cases F with
  | zero => rw [objOf]
  | succ F =>
    rw [objOf_eq] at h ⊢
    unfold arrV dictV wordV at *
    repeat' split
    all_goals first | rfl | (exfalso; revert h; simp_all)

theorem parse_eq (l : List UInt8) (a : Int) : parse l a = objAt (3 * l.length + 2) l 0 a := by
  unfold parse objAt; rfl
theorem parse_err (l : List UInt8) (a : Int) (h : (parse l a).1 ≠ 0) : (parse l a).2 = (nul, 0) := by
  rw [parse_eq, objAt] at h ⊢
  split
  · rfl
  · next he => rw [if_neg he] at h; exact objOf_err _ _ _ _ h

set_option maxRecDepth 100000 in
set_option maxHeartbeats 4000000 in
theorem cosParse_any (HSET : SetC) (s : ByteArray) (a : Int) (w : World) (hs : s.size ≤ 4294967295) (hm : HasMax w) (X : Int × Ob × Nat) (hX : X = parse s.data.toList a) :
    Calls Tryz.prog 85 #[.string s, .int .i64 a] w fun e w' => ∃ h, e = .returned (.tuple #[objV X.2.1 h, .int .i64 X.2.2, .int .i64 X.1]) ∧ Kept w w' ∧ Lies (Cel (fun b => w.heap.size ≤ b) w') X.2.1 h := by
  have HM := Lib.hid hm
  have hl : s.data.toList.length = s.size := by simp
  have HXO := Lib.hid (show X = objAt (3 * s.data.toList.length + 2) s.data.toList 0 a by rw [hX, parse_eq])
  have HXE := Lib.hid (fun h : X.1 ≠ 0 => show X.2 = (nul, 0) by rw [hX] at h ⊢; exact parse_err _ _ h)
  have K1 := Lib.hid (((Kept.refl w).alloc nul6 43).alloc #[.string s, .int .i64 a, .int .i64 0] 181)
  have R1 := Lib.hid (show Rst s a ((0 : Nat) : Int) (w.heap.size + 1) ((w.alloc (.cells nul6 43)).alloc (.cells #[.string s, .int .i64 a, .int .i64 0] 181)) from Blk.fresh' _ _ (by simp))
  have B1 := Lib.hid ((Blk.fresh w nul6 43).alloc (.cells #[.string s, .int .i64 a, .int .i64 0] 181))
  have CO := Lib.hid (object_any (3 * s.data.toList.length + 2) (objC_any HSET _) s a 0 (w.heap.size + 1) _ hs (HM.out.kept K1.out) R1.out (fun _ => by rw [hl]; omega) (by omega) X HXO.out)
  have hlt1 := R1.out.lt
  clear hm hX hl HSET
  obtain ⟨xe, xo, xk⟩ := X
  simp only [] at HXE
  go_enter Tryz.func85, Tryz.ntmps85
  go_wp2_with fail
  (with_reducible refine CO.out.mono ?_)
  rintro e w2 ⟨h, rfl, hr2, hg2, hx2⟩
  obtain ⟨SZ, hSZ⟩ : ∃ SZ, SZ = ((w.alloc (.cells nul6 43)).alloc (.cells #[.string s, .int .i64 a, .int .i64 0] 181)).heap.size := ⟨_, rfl⟩
  rw [← hSZ] at hx2 hlt1
  have X2 := Lib.hid hx2
  have NK := Lib.hid (show ∀ b, SZ ≤ b → b ≠ w.heap.size from fun b hb => by omega)
  have NW := Lib.hid (show ∀ b, SZ ≤ b → w.heap.size ≤ b from fun b hb => by omega)
  have K2 := Lib.hid (show Kept w w2 from ⟨hg2.os.trans K1.out.os, hg2.tape.trans K1.out.tape, hg2.output.trans K1.out.output, Nat.le_trans K1.out.size hg2.size, fun j hj => (hg2.block j (by simp; omega) (by simp; omega)).trans (K1.out.block j hj)⟩)
  have B2 := Lib.hid (B1.out.gb hg2 (by simp))
  have R2 := Lib.hid hr2
  clear hSZ hlt1 hr2 hg2 hx2
  obtain ⟨u0, u1, u2, u3, u4, u5⟩ := B2.out.cells6
  have uf := B2.out.free
  have uz := B2.out.lt
  unfold objV
  simp only []
  by_cases hx : xe = 0
  · subst hx
    have R3 := Lib.hid (R2.out (by trivial))
    obtain ⟨c0, c1, c2⟩ := R3.out.cells
    have rz := R3.out.lt
    go_wp2_with fail
    go_region_with (fail)
    all_goals
      go_wp2_with fail
      refine bodyPost_ret (v := .tuple #[.agg #[.int .i64 xo.k, .int .i64 xo.n, .int .i64 xo.f, .string xo.s, .slice h.p xo.l.length h.c, .slice h.q xo.d.length h.e], .int .i64 xk, .int .i64 0]) ?_ rfl ⟨h, rfl, ?_, ?_⟩
      · simp [results, Tryz.results85, go_sem, u0, u1, u2, u3, u4, u5, uz]
      · repeat (with_reducible first | exact K2.out | refine Kept.drew ?_ | refine Kept.drewN ?_ _ | refine Kept.alloc ?_ _ _ | refine Kept.set ?_ (Nat.le_refl _) _)
      · refine Lies.weak (P := fun b => SZ ≤ b) ?_ NW.out
        repeat (with_reducible first | exact X2.out | refine Lies.drew ?_ | refine Lies.set ?_ NK.out _ | refine Lies.alloc ?_ _)
  · have HXX := Lib.hid (HXE.out hx)
    have hne : (xe != 0) = true := by simpa using hx
    have he' := Lib.hid hx
    have ho : xo = nul := congrArg Prod.fst HXX.out
    have hk : xk = 0 := congrArg Prod.snd HXX.out
    clear hx
    subst ho hk
    go_wp2_with fail
    refine bodyPost_ret (v := .tuple #[.agg nul6, .int .i64 0, .int .i64 xe]) ?_ rfl ⟨Hd.none, rfl, ?_, Lies.flat _ _ _ _ _ _ (Nat.zero_le _)⟩
    · simp [results, Tryz.results85, go_sem, u0, u1, u2, u3, u4, u5, uz]
    · repeat (with_reducible first | exact K2.out | refine Kept.drew ?_ | refine Kept.alloc ?_ _ _ | refine Kept.set ?_ (Nat.le_refl _) _)

end Go.Proofs.YtbgdeaeikijdgaaGreatDoor
