/-
  The document's font of an object.
-/
import Derived.Test.YtakbhdhlcnpejaaMetO
import Derived.Test.YtakbhdhlcnpejaaMetS
import Derived.Test.YtakbhdhlcnpejaaMetR
import Derived.Deep.RegionHeld3
namespace Go.Proofs.Ytakbhdhlcnpejaa
open Go.RowKit Cx Sx
set_option linter.unusedSimpArgs false
set_option linter.unusedVariables false

theorem OwI.set {w : World} {B : Nat} {v : Value} {l : List Nat} (h : OwI w B v l) {k : Nat} (hk : k < B) (o : Nat) (x : Value) : OwI (w.setCell ⟨k, o, none⟩ x) B v l := by
  have g : Below k w (w.setCell ⟨k, o, none⟩ x) := Below.setCell (Below.refl k w) (Nat.le_refl _) x
  have hl := h.lt
  refine h.gb (r := some k) ⟨g.os, g.tape, g.output, g.size, fun j _ hj => Below.heap_setCell w ⟨k, o, none⟩ x j (fun e => hj (by rw [e]))⟩ ?_
  cases hv : v.ownBlock with
  | none => exact .inl rfl
  | some b => exact .inr fun e => by have := (hl b hv).1; cases e; omega
theorem Mt.whole_ways2 (m : Int) (o : Ob) : ((o.k == 2) = false ∧ Mt.whole m o = false) ∨ ((o.k == 2) = true ∧ o.f < 0 ∧ Mt.whole m o = false) ∨ ((o.k == 2) = true ∧ 0 ≤ o.f ∧ m * 1000 < o.f ∧ Mt.whole m o = false) ∨
    ((o.k == 2) = true ∧ 0 ≤ o.f ∧ o.f ≤ m * 1000 ∧ (o.f % 1000 == 0) = false ∧ Mt.whole m o = false) ∨ ((o.k == 2) = true ∧ 0 ≤ o.f ∧ o.f ≤ m * 1000 ∧ (o.f % 1000 == 0) = true ∧ Mt.whole m o = true) := by
  unfold Mt.whole
  cases h1 : (o.k == 2)
  · exact .inl ⟨rfl, rfl⟩
  · by_cases h3 : 0 ≤ o.f
    · by_cases h4 : o.f ≤ m * 1000
      · by_cases h2 : o.f % 1000 = 0
        · exact .inr (.inr (.inr (.inr ⟨rfl, h3, h4, by simpa using h2, by simp [Int.tmod_eq_emod_of_nonneg h3, h2, h3, h4]⟩)))
        · exact .inr (.inr (.inr (.inl ⟨rfl, h3, h4, by simpa using h2, by simp [Int.tmod_eq_emod_of_nonneg h3, h2]⟩)))
      · exact .inr (.inr (.inl ⟨rfl, h3, by omega, by simp [h4]⟩))
    · exact .inr (.inl ⟨rfl, by omega, by simp [h3]⟩)

set_option maxRecDepth 100000 in
set_option maxHeartbeats 8000000 in
theorem ROf_any (P : Nat → Prop) (l : List Nm) (p : Option Addr) (c : Nat) (t : Ob) (ht : Hd) (o : Ob) (ho : Hd) (w : World) (h : NmR P w p l) (hl : Lies (Cel P w) o ho) (X : Int × Mt.Fo) (hX : X = Mt.ofV l o) :
    Calls Try.prog 11 #[fileV l p c t ht, objV o ho] w (FoPost w X) := by
  obtain ⟨Y, hY⟩ : ∃ Y, Y = resV l o := ⟨_, rfl⟩
  rw [Mt.ofV, ← hY] at hX
  replace h := h.low
  replace hl : Lies (Cel (fun b => P b ∧ b < w.heap.size) w) o ho := hl.keep fun b hb hlt => ⟨⟨hb, hlt⟩, rfl⟩
  have CR := Lib.hid (fun W (k : Kept w W) => RResolve_any _ l p c t ht o ho W (h.kept k) (hl.kept k) Y hY)
  have HN := Lib.hid h
  have HX := Lib.hid hX
  clear h hl hY hX
  obtain ⟨op, oc, oq, oe⟩ := ho
  have H1 := Lib.hid (In.fresh' (k := w.heap.size + 1 + 1) (In.fresh' (k := w.heap.size + 1) (In.fresh (In.start w) #[.slice p l.length c, .int .i64 t.k, .int .i64 t.n, .int .i64 t.f, .string t.s, .slice ht.p t.l.length ht.c, .slice ht.q t.d.length ht.e] 29) #[.int .i64 o.k, .int .i64 o.n, .int .i64 o.f, .string o.s, .slice op o.l.length oc, .slice oq o.d.length oe] 27 (by simp)) #[.int .i64 0, .slice none 0 0, .int .i64 0] 38 (by simp))
  have K1 := Lib.hid (In.k H1.out)
  obtain ⟨er, y⟩ := Y
  unfold fileV objV at CR
  unfold fileV objV
  simp only [] at CR HX ⊢
  go_enter Try.func11, Try.ntmps11
  go_wp2_with fail
  (with_reducible refine (CR.out _ K1.out).mono ?_)
  rintro e w2 ⟨⟨yp, yc, yq, ye⟩, rfl, hk2, hl2⟩
  have H2 := Lib.hid (In.fresh (H1.out.kept hk2) #[.int .i64 y.k, .int .i64 y.n, .int .i64 y.f, .string y.s, .slice yp y.l.length yc, .slice yq y.d.length ye] 27)
  have S2 := Lib.hid (show w.heap.size + 1 + 1 < w2.heap.size from ((H1.out.kept hk2).mem List.mem_cons_self).lt)
  have K2 := Lib.hid (In.k H2.out)
  have L2 := Lib.hid (hl2.alloc (.cells #[.int .i64 y.k, .int .i64 y.n, .int .i64 y.f, .string y.s, .slice yp y.l.length yc, .slice yq y.d.length ye] 27))
  have RM := Lib.hid (H2.out.mem (List.mem_cons_of_mem _ List.mem_cons_self))
  have FM := Lib.hid (H2.out.mem (List.mem_cons_of_mem _ (List.mem_cons_of_mem _ (List.mem_cons_of_mem _ List.mem_cons_self))))
  have r0 := RM.out.cell 0
  have r1 := RM.out.cell 1
  have r2 := RM.out.cell 2
  have rf := RM.out.free
  have rz := RM.out.lt
  obtain ⟨f0, f1, f2, f3, f4, f5, f6⟩ := FM.out.cells7
  have fz := FM.out.lt
  clear hk2 hl2 H1 K1 CR
  simp only []
  by_cases he : er = 0
  rotate_left 1
  · have hne : (er != 0) = true := by simpa using he
    have hne2 : (er == 0) = false := by simpa using he
    have HV := Lib.hid (show X = (er, Mt.noF) by rw [HX.out, if_neg he])
    clear he HX
    go_wp2_with fail
    refine bodyPost_ret (v := .tuple #[.agg #[.int .i64 0, .slice none 0 0, .int .i64 0], .int .i64 er]) ?_ rfl ⟨none, 0, by rw [HV.out]; rfl, by rw [HV.out]; exact NuB.nil _ _ _, ?_⟩
    · simp [results, Try.results11, go_sem, r0, r1, r2, rz]
    · repeat (with_reducible first | exact K2.out | refine Kept.drew ?_ | refine Kept.alloc ?_ _ _ | refine Kept.set ?_ (by omega) _)
  subst he
  by_cases hk : y.k = 6
  rotate_left 1
  · have hkb : (y.k != 6) = true := by simpa using hk
    have HV := Lib.hid (show X = (9, Mt.noF) by rw [HX.out, if_pos rfl, if_neg hk])
    clear hk HX
    go_wp2_with fail
    refine bodyPost_ret (v := .tuple #[.agg #[.int .i64 0, .slice none 0 0, .int .i64 0], .int .i64 9]) ?_ rfl ⟨none, 0, by rw [HV.out]; rfl, by rw [HV.out]; exact NuB.nil _ _ _, ?_⟩
    · simp [results, Try.results11, go_sem, r0, r1, r2, rz]
    · repeat (with_reducible first | exact K2.out | refine Kept.drew ?_ | refine Kept.alloc ?_ _ _ | refine Kept.set ?_ (by omega) _)
  have hkb : (y.k != 6) = false := by rw [hk]; rfl
  obtain ⟨Z, hZ⟩ : ∃ Z, Z = entryV l y Mt.keyW := ⟨_, rfl⟩
  have HX1 := Lib.hid (show X = if Z.1 = 0 then (if Z.2.k = 0 then Mt.nameV (entryV l y Mt.keyB) else Mt.listV (Mt.widthsV l Z.2) (entryV l y Mt.keyF)) else (Z.1, Mt.noF) by rw [HX.out, if_pos rfl, if_pos hk, ← hZ])
  have CE := Lib.hid (fun W (k : Kept _ W) => (show Calls Try.prog 27 #[fileV l p c t ht, objV y ⟨yp, yc, yq, ye⟩, .string ⟨#[87, 105, 100, 116, 104, 115]⟩] W _ from REntry_any _ l p c t ht y ⟨yp, yc, yq, ye⟩ Mt.keyW W ((HN.out.kept K2.out).kept k) (L2.out.kept k) Z hZ))
  clear hk hZ HX
  obtain ⟨ez, z⟩ := Z
  unfold fileV objV at CE
  simp only [] at CE HX1
  go_wp2_with fail
  (with_reducible refine (CE.out _ (Kept.refl _)).mono ?_)
  rintro e w3 ⟨⟨zp, zc, zq, ze⟩, rfl, hk3, hl3⟩
  have H3 := Lib.hid (In.fresh (H2.out.kept hk3) #[.int .i64 z.k, .int .i64 z.n, .int .i64 z.f, .string z.s, .slice zp z.l.length zc, .slice zq z.d.length ze] 27)
  have S3 := Lib.hid (show w2.heap.size < w3.heap.size from ((H2.out.kept hk3).mem List.mem_cons_self).lt)
  have K3 := Lib.hid (In.k H3.out)
  have L3 := Lib.hid (hl3.alloc (.cells #[.int .i64 z.k, .int .i64 z.n, .int .i64 z.f, .string z.s, .slice zp z.l.length zc, .slice zq z.d.length ze] 27))
  have LY := Lib.hid ((L2.out.kept hk3).alloc (.cells #[.int .i64 z.k, .int .i64 z.n, .int .i64 z.f, .string z.s, .slice zp z.l.length zc, .slice zq z.d.length ze] 27))
  have RM3 := Lib.hid (H3.out.mem (List.mem_cons_of_mem _ (List.mem_cons_of_mem _ List.mem_cons_self)))
  have FM3 := Lib.hid (H3.out.mem (List.mem_cons_of_mem _ (List.mem_cons_of_mem _ (List.mem_cons_of_mem _ (List.mem_cons_of_mem _ List.mem_cons_self)))))
  have YM3 := Lib.hid (H3.out.mem (List.mem_cons_of_mem _ List.mem_cons_self))
  have ZM3 := Lib.hid (H3.out.mem List.mem_cons_self)
  clear hk3 hl3 CE r0 r1 r2 rf rz f0 f1 f2 f3 f4 f5 f6 fz
  have r0 := RM3.out.cell 0
  have r1 := RM3.out.cell 1
  have r2 := RM3.out.cell 2
  have rf := RM3.out.free
  have rz := RM3.out.lt
  obtain ⟨f0, f1, f2, f3, f4, f5, f6⟩ := FM3.out.cells7
  have fz := FM3.out.lt
  obtain ⟨y0, y1, y2, y3, y4, y5⟩ := YM3.out.cells6
  have yz := YM3.out.lt
  simp only []
  by_cases hz : ez = 0
  rotate_left 1
  · have hne : (ez != 0) = true := by simpa using hz
    have HV := Lib.hid (show X = (ez, Mt.noF) by rw [HX1.out, if_neg hz])
    clear hz HX1
    go_wp2_with fail
    refine bodyPost_ret (v := .tuple #[.agg #[.int .i64 0, .slice none 0 0, .int .i64 0], .int .i64 ez]) ?_ rfl ⟨none, 0, by rw [HV.out]; rfl, by rw [HV.out]; exact NuB.nil _ _ _, ?_⟩
    · simp [results, Try.results11, go_sem, r0, r1, r2, rz]
    · repeat (with_reducible first | exact K3.out | refine Kept.drew ?_ | refine Kept.alloc ?_ _ _ | refine Kept.set ?_ (by omega) _)
  subst hz
  by_cases hk0 : z.k = 0
  · have hkb0 : (z.k == 0) = true := by rw [hk0]; rfl
    obtain ⟨V, hV⟩ : ∃ V, V = entryV l y Mt.keyB := ⟨_, rfl⟩
    have HX2 := Lib.hid (show X = Mt.nameV V by rw [HX1.out, if_pos rfl, if_pos hk0, hV])
    have CE := Lib.hid (fun W (k : Kept _ W) => (show Calls Try.prog 27 #[fileV l p c t ht, objV y ⟨yp, yc, yq, ye⟩, .string ⟨#[66, 97, 115, 101, 70, 111, 110, 116]⟩] W _ from REntry_any _ l p c t ht y ⟨yp, yc, yq, ye⟩ Mt.keyB W ((HN.out.kept K3.out).kept k) (LY.out.kept k) V hV))
    clear hk0 HX1 hV
    obtain ⟨eb, b⟩ := V
    unfold fileV objV at CE
    simp only [] at CE HX2
    go_wp2_with fail
    (with_reducible refine (CE.out _ (Kept.refl _)).mono ?_)
    rintro e w4 ⟨⟨bp, bc, bq, be⟩, rfl, hk4, hl4⟩
    have H4 := Lib.hid (In.fresh (H3.out.kept hk4) #[.int .i64 b.k, .int .i64 b.n, .int .i64 b.f, .string b.s, .slice bp b.l.length bc, .slice bq b.d.length be] 27)
    have S4 := Lib.hid (show w3.heap.size < w4.heap.size from ((H3.out.kept hk4).mem List.mem_cons_self).lt)
    have K4 := Lib.hid (In.k H4.out)
    have RM4 := Lib.hid (H4.out.mem (List.mem_cons_of_mem _ (List.mem_cons_of_mem _ (List.mem_cons_of_mem _ List.mem_cons_self))))
    clear hk4 hl4 CE r0 r1 r2 rf rz f0 f1 f2 f3 f4 f5 f6 fz y0 y1 y2 y3 y4 y5 yz
    have r0 := RM4.out.cell 0
    have r1 := RM4.out.cell 1
    have r2 := RM4.out.cell 2
    have rf := RM4.out.free
    have rz := RM4.out.lt
    simp only []
    by_cases hb : eb = 0
    rotate_left 1
    · have hne : (eb != 0) = true := by simpa using hb
      have HV := Lib.hid (show X = (eb, Mt.noF) by rw [HX2.out, Mt.nameV, if_neg hb])
      clear hb HX2
      go_wp2_with fail
      refine bodyPost_ret (v := .tuple #[.agg #[.int .i64 0, .slice none 0 0, .int .i64 0], .int .i64 eb]) ?_ rfl ⟨none, 0, by rw [HV.out]; rfl, by rw [HV.out]; exact NuB.nil _ _ _, ?_⟩
      · simp [results, Try.results11, go_sem, r0, r1, r2, rz]
      · repeat (with_reducible first | exact K4.out | refine Kept.drew ?_ | refine Kept.alloc ?_ _ _ | refine Kept.set ?_ (by omega) _)
    subst hb
    have HX3 := Lib.hid (show X = if b.k = 3 then (if Mt.stdB b.s.data.toList = true then (0, Mt.stdT b.s.data.toList) else (3, Mt.noF)) else (3, Mt.noF) by rw [HX2.out, Mt.nameV, if_pos rfl])
    clear HX2
    obtain ⟨ok, hok⟩ : ∃ ok, ok = Mt.stdB b.s.data.toList := ⟨_, rfl⟩
    obtain ⟨T, hT⟩ : ∃ T, T = Mt.stdT b.s.data.toList := ⟨_, rfl⟩
    have CS := Lib.hid (fun W => (show Calls Try.prog 8 #[.string b.s] W (StdPostF W T ok) by
      rw [hok, hT]
      have := RStandard_any b.s.data.toList W
      rw [← Mt.str_arr] at this; exact this))
    rw [← hok, ← hT] at HX3
    clear hok hT
    go_wp2_with fail
    (with_reducible refine (CS.out _).mono ?_)
    rintro e w5 ⟨q, cq, rfl, hn5, hk5⟩
    unfold Mt.fontV
    have H5 := Lib.hid (In.fresh (H4.out.kept hk5) #[.int .i64 T.first, .slice q T.ws.length cq, .int .i64 T.other] 38)
    have N5 := Lib.hid (NuB.mono (NuB.alloc hn5 (.cells #[.int .i64 T.first, .slice q T.ws.length cq, .int .i64 T.other] 38)) (show w.heap.size + 1 + 1 + 1 ≤ _ by have := S2.out; have := S3.out; have := S4.out; simp; omega))
    have K5 := Lib.hid (In.k H5.out)
    have BM5 := Lib.hid (H5.out.mem (List.mem_cons_of_mem _ List.mem_cons_self))
    have RM5 := Lib.hid (H5.out.mem (List.mem_cons_of_mem _ (List.mem_cons_of_mem _ (List.mem_cons_of_mem _ (List.mem_cons_of_mem _ List.mem_cons_self)))))
    clear hk5 hn5 r0 r1 r2 rf rz
    have r0 := RM5.out.cell 0
    have r1 := RM5.out.cell 1
    have r2 := RM5.out.cell 2
    have rf := RM5.out.free
    have rz := RM5.out.lt
    obtain ⟨b0, b1, b2, b3, b4, b5⟩ := BM5.out.cells6
    have bz := BM5.out.lt
    simp only []
    by_cases hk3 : b.k = 3
    rotate_left 1
    · have hkb3 : (b.k != 3) = true := by simpa using hk3
      have HV := Lib.hid (show X = (3, Mt.noF) by rw [HX3.out, if_neg hk3])
      clear hk3 HX3
      go_wp2_with fail
      refine bodyPost_ret (v := .tuple #[.agg #[.int .i64 0, .slice none 0 0, .int .i64 0], .int .i64 3]) ?_ rfl ⟨none, 0, by rw [HV.out]; rfl, by rw [HV.out]; exact NuB.nil _ _ _, ?_⟩
      · simp [results, Try.results11, go_sem, r0, r1, r2, rz]
      · repeat (with_reducible first | exact K5.out | refine Kept.drew ?_ | refine Kept.alloc ?_ _ _ | refine Kept.set ?_ (by omega) _)
    have hkb3 : (b.k != 3) = false := by rw [hk3]; rfl
    have HX4 := Lib.hid (show X = if ok = true then (0, T) else (3, Mt.noF) by rw [HX3.out, if_pos hk3])
    clear hk3 HX3
    cases ok
    · have HV := Lib.hid (show X = (3, Mt.noF) from HX4.out)
      go_wp2_with fail
      refine bodyPost_ret (v := .tuple #[.agg #[.int .i64 0, .slice none 0 0, .int .i64 0], .int .i64 3]) ?_ rfl ⟨none, 0, by rw [HV.out]; rfl, by rw [HV.out]; exact NuB.nil _ _ _, ?_⟩
      · simp [results, Try.results11, go_sem, r0, r1, r2, rz]
      · repeat (with_reducible first | exact K5.out | refine Kept.drew ?_ | refine Kept.alloc ?_ _ _ | refine Kept.set ?_ (by omega) _)
    · have HV := Lib.hid (show X = (0, T) from HX4.out)
      go_wp2_with fail
      refine bodyPost_ret (v := .tuple #[.agg #[.int .i64 T.first, .slice q T.ws.length cq, .int .i64 T.other], .int .i64 0]) ?_ rfl ⟨q, cq, by rw [HV.out]; rfl, by rw [HV.out]; exact NuB.mono (B := w.heap.size + 1 + 1 + 1) (by repeat (with_reducible first | exact N5.out | refine NuB.set ?_ (Nat.lt_succ_self _) _ _)) (by omega), ?_⟩
      · simp [results, Try.results11, go_sem, r0, r1, r2, rz]
      · repeat (with_reducible first | exact K5.out | refine Kept.drew ?_ | refine Kept.alloc ?_ _ _ | refine Kept.set ?_ (by omega) _)
  have hkb0 : (z.k == 0) = false := by simpa using hk0
  obtain ⟨U, hU⟩ : ∃ U, U = Mt.widthsV l z := ⟨_, rfl⟩
  obtain ⟨V, hV⟩ : ∃ V, V = entryV l y Mt.keyF := ⟨_, rfl⟩
  have HX2 := Lib.hid (show X = Mt.listV U V by rw [HX1.out, if_pos rfl, if_neg hk0, hU, hV])
  have HU := Lib.hid hU
  have HVV := Lib.hid hV
  clear hk0 HX1 hU hV
  obtain ⟨z0, z1, z2, z3, z4, z5⟩ := ZM3.out.cells6
  have zz := ZM3.out.lt
  by_cases hk5 : z.k = 5
  rotate_left 1
  · have hkb5 : (z.k != 5) = true := by simpa using hk5
    have HV := Lib.hid (show X = (3, Mt.noF) by rw [HX2.out, HU.out, Mt.widthsV, if_neg hk5]; rfl)
    clear hk5 HX2
    go_wp2_with fail
    refine bodyPost_ret (v := .tuple #[.agg #[.int .i64 0, .slice none 0 0, .int .i64 0], .int .i64 3]) ?_ rfl ⟨none, 0, by rw [HV.out]; rfl, by rw [HV.out]; exact NuB.nil _ _ _, ?_⟩
    · simp [results, Try.results11, go_sem, r0, r1, r2, rz]
    · repeat (with_reducible first | exact K3.out | refine Kept.drew ?_ | refine Kept.alloc ?_ _ _ | refine Kept.set ?_ (by omega) _)
  have hkb5 : (z.k != 5) = false := by rw [hk5]; rfl
  have HU1 := Lib.hid (show U = if z.l.length ≤ 256 then Mt.wsV l z.l else (6, []) by rw [HU.out, Mt.widthsV, if_pos hk5])
  clear hk5
  by_cases hn : z.l.length ≤ 256
  rotate_left 1
  · have hnb : (256 : Int) < (z.l.length : Int) := by omega
    have HV := Lib.hid (show X = (6, Mt.noF) by rw [HX2.out, HU1.out, if_neg hn]; rfl)
    clear hn HX2
    go_wp2_with fail
    refine bodyPost_ret (v := .tuple #[.agg #[.int .i64 0, .slice none 0 0, .int .i64 0], .int .i64 6]) ?_ rfl ⟨none, 0, by rw [HV.out]; rfl, by rw [HV.out]; exact NuB.nil _ _ _, ?_⟩
    · simp [results, Try.results11, go_sem, r0, r1, r2, rz]
    · repeat (with_reducible first | exact K3.out | refine Kept.drew ?_ | refine Kept.alloc ?_ _ _ | refine Kept.set ?_ (by omega) _)
  have hnb : ¬ (256 : Int) < (z.l.length : Int) := by omega
  have HG0 := Lib.hid (show Mt.goV l [] (z.l.drop 0) = U by rw [HU1.out, if_pos hn, Mt.goV_start, List.drop_zero])
  clear HU HU1
  have H4 := Lib.hid (In.fresh' (k := w3.heap.size + 1) H3.out #[.int .i64 0, .slice none 0 0, .int .i64 0] 38 (by simp))
  have S4 := Lib.hid (show w.heap.size + 1 + 1 < w3.heap.size by have := S2.out; have := S3.out; omega)
  have HLZ := Lib.hid (fun W (k : Kept w W) => L3.out.keep fun b hb _ => ⟨hb, (k.block b hb.2).trans (K3.out.block b hb.2).symm⟩)
  have HLY := Lib.hid (fun W (k : Kept w W) => LY.out.keep fun b hb _ => ⟨hb, (k.block b hb.2).trans (K3.out.block b hb.2).symm⟩)
  go_wp2_with fail
  go_loopg [14] (z.l.length) (fun m i wr => ∃ (j : Nat) (acc : List Nat) (vv : Value), m = z.l.length - j ∧ j ≤ z.l.length ∧ i = .int .i64 j ∧ acc.length = j ∧ Hid (Mt.goV l acc (z.l.drop j) = U) ∧ OwI wr (w3.heap.size + 1 + 1) vv acc ∧ In w [(w3.heap.size + 1, #[.int .i64 0, vv, .int .i64 0], 38), (w3.heap.size, #[.int .i64 z.k, .int .i64 z.n, .int .i64 z.f, .string z.s, .slice zp z.l.length zc, .slice zq z.d.length ze], 27), (w2.heap.size, #[.int .i64 y.k, .int .i64 y.n, .int .i64 y.f, .string y.s, .slice yp y.l.length yc, .slice yq y.d.length ye], 27), (w.heap.size + 1 + 1, #[.int .i64 0, .slice none 0 0, .int .i64 0], 38), (w.heap.size + 1, #[.int .i64 o.k, .int .i64 o.n, .int .i64 o.f, .string o.s, .slice op o.l.length oc, .slice oq o.d.length oe], 27), (w.heap.size, #[.slice p l.length c, .int .i64 t.k, .int .i64 t.n, .int .i64 t.f, .string t.s, .slice ht.p t.l.length ht.c, .slice ht.q t.d.length ht.e], 29)] wr)
  case atStart => exact ⟨0, [], _, by omega, Nat.zero_le _, rfl, rfl, HG0, OwI.nil _ _, H4.out⟩
  case round =>
    obtain ⟨j, acc, vv, hm, hj, rfl, hja, HG, ho, hin⟩ := hrel
    have HI := Lib.hid hin
    have KI := Lib.hid (In.k hin)
    have HO := Lib.hid ho
    have TM := Lib.hid (hin.mem List.mem_cons_self)
    have ZM := Lib.hid (hin.mem (List.mem_cons_of_mem _ List.mem_cons_self))
    have RM := Lib.hid (hin.mem (List.mem_cons_of_mem _ (List.mem_cons_of_mem _ (List.mem_cons_of_mem _ List.mem_cons_self))))
    have FM := Lib.hid (hin.mem (List.mem_cons_of_mem _ (List.mem_cons_of_mem _ (List.mem_cons_of_mem _ (List.mem_cons_of_mem _ (List.mem_cons_of_mem _ List.mem_cons_self))))))
    have YM := Lib.hid (hin.mem (List.mem_cons_of_mem _ (List.mem_cons_of_mem _ List.mem_cons_self)))
    clear hin ho H4 r0 r1 r2 rf rz f0 f1 f2 f3 f4 f5 f6 fz y0 y1 y2 y3 y4 y5 yz z0 z1 z2 z3 z4 z5 zz
    have r0 := RM.out.cell 0
    have r1 := RM.out.cell 1
    have r2 := RM.out.cell 2
    have rf := RM.out.free
    have rz := RM.out.lt
    obtain ⟨f0, f1, f2, f3, f4, f5, f6⟩ := FM.out.cells7
    have fz := FM.out.lt
    obtain ⟨z0, z1, z2, z3, z4, z5⟩ := ZM.out.cells6
    have zz := ZM.out.lt
    by_cases hlt : j < z.l.length
    · have j1 : (j : Int) < (z.l.length : Int) := by omega
      have j0 : (0 : Int) ≤ (j : Int) := by omega
      obtain ⟨x, b, off, ⟨xp, xc, xq, xe⟩, hxe, hpp, hPb, hbl, hx, x0, x1, x2, x3, x4, x5⟩ := (HLZ.out wr KI.out).elem j hlt
      simp only [] at hpp x4 x5
      subst hpp
      obtain ⟨V2, hV2⟩ : ∃ V2, V2 = resV l x := ⟨_, rfl⟩
      have CR := Lib.hid (fun W (k : Kept wr W) => RResolve_any _ l p c t ht x ⟨xp, xc, xq, xe⟩ W ((HN.out.kept KI.out).kept k) (hx.kept k) V2 hV2)
      have HD := Lib.hid (show z.l.drop j = x :: z.l.drop (j + 1) by rw [List.drop_eq_getElem_cons hlt, hxe])
      rw [HD.out] at HG
      have GB := Lib.hid (show V2.1 ≠ 0 → U = (V2.1, []) from fun e => by rw [← HG.out, Mt.goV_bad (by rw [← hV2]; exact e), hV2])
      have GF := Lib.hid (show V2.1 = 0 → Mt.whole 5000 V2.2 = false → U = (3, []) from fun e k => by rw [← HG.out]; exact Mt.goV_form (by rw [← hV2]; exact e) (by rw [← hV2]; exact k))
      have GS := Lib.hid (show V2.1 = 0 → Mt.whole 5000 V2.2 = true → Mt.goV l (acc ++ [Mt.num V2.2]) (z.l.drop (j + 1)) = U from fun e k => by rw [← HG.out, Mt.goV_step (by rw [← hV2]; exact e) (by rw [← hV2]; exact k), hV2])
      clear hV2 hxe hx hPb HD
      obtain ⟨ex, v⟩ := V2
      unfold fileV objV at CR
      simp only [] at CR GB GF GS
      have SK := Lib.hid (show ∀ w', Kept wr w' → w'.cell? ⟨w.heap.size, 0, none⟩ = some (.slice p l.length c) ∧ w'.cell? ⟨w.heap.size, 1, none⟩ = some (.int .i64 t.k) ∧ w'.cell? ⟨w.heap.size, 2, none⟩ = some (.int .i64 t.n) ∧ w'.cell? ⟨w.heap.size, 3, none⟩ = some (.int .i64 t.f) ∧ w'.cell? ⟨w.heap.size, 4, none⟩ = some (.string t.s) ∧ w'.cell? ⟨w.heap.size, 5, none⟩ = some (.slice ht.p t.l.length ht.c) ∧ w'.cell? ⟨w.heap.size, 6, none⟩ = some (.slice ht.q t.d.length ht.e) ∧ w'.cell? ⟨w3.heap.size, 4, none⟩ = some (.slice (some ⟨b, off, none⟩) z.l.length zc) ∧ w'.cell? ⟨b, off + j * 6, none⟩ = some (.int .i64 x.k) ∧ w'.cell? ⟨b, off + j * 6 + 1, none⟩ = some (.int .i64 x.n) ∧ w'.cell? ⟨b, off + j * 6 + 2, none⟩ = some (.int .i64 x.f) ∧ w'.cell? ⟨b, off + j * 6 + 3, none⟩ = some (.string x.s) ∧ w'.cell? ⟨b, off + j * 6 + 4, none⟩ = some (.slice xp x.l.length xc) ∧ w'.cell? ⟨b, off + j * 6 + 5, none⟩ = some (.slice xq x.d.length xe) from fun w' k => ⟨(k.cells.1 _ _ fz).trans f0, (k.cells.1 _ _ fz).trans f1, (k.cells.1 _ _ fz).trans f2, (k.cells.1 _ _ fz).trans f3, (k.cells.1 _ _ fz).trans f4, (k.cells.1 _ _ fz).trans f5, (k.cells.1 _ _ fz).trans f6, (k.cells.1 _ _ zz).trans z4, (k.cells.1 _ _ hbl).trans x0, (k.cells.1 _ _ hbl).trans x1, (k.cells.1 _ _ hbl).trans x2, (k.cells.1 _ _ hbl).trans x3, (k.cells.1 _ _ hbl).trans x4, (k.cells.1 _ _ hbl).trans x5⟩)
      go_upto_region 25 with fail
      have hSK := SK.out _ (Kept.refl wr)
      refine wp_region_held_drew (S := fun w' => w'.cell? ⟨w.heap.size, 0, none⟩ = some (.slice p l.length c) ∧ w'.cell? ⟨w.heap.size, 1, none⟩ = some (.int .i64 t.k) ∧ w'.cell? ⟨w.heap.size, 2, none⟩ = some (.int .i64 t.n) ∧ w'.cell? ⟨w.heap.size, 3, none⟩ = some (.int .i64 t.f) ∧ w'.cell? ⟨w.heap.size, 4, none⟩ = some (.string t.s) ∧ w'.cell? ⟨w.heap.size, 5, none⟩ = some (.slice ht.p t.l.length ht.c) ∧ w'.cell? ⟨w.heap.size, 6, none⟩ = some (.slice ht.q t.d.length ht.e) ∧ w'.cell? ⟨w3.heap.size, 4, none⟩ = some (.slice (some ⟨b, off, none⟩) z.l.length zc) ∧ w'.cell? ⟨b, off + j * 6, none⟩ = some (.int .i64 x.k) ∧ w'.cell? ⟨b, off + j * 6 + 1, none⟩ = some (.int .i64 x.n) ∧ w'.cell? ⟨b, off + j * 6 + 2, none⟩ = some (.int .i64 x.f) ∧ w'.cell? ⟨b, off + j * 6 + 3, none⟩ = some (.string x.s) ∧ w'.cell? ⟨b, off + j * 6 + 4, none⟩ = some (.slice xp x.l.length xc) ∧ w'.cell? ⟨b, off + j * 6 + 5, none⟩ = some (.slice xq x.d.length xe)) (by kernel_rfl) ?_ (fun hHeld => ?_)
      · first | exact SK.out _ (Kept.refl wr) | exact SK.out _ (Kept.refl wr).drew
      refine wpAnyH_take (i := 0) (oi := ⟨some 91, _, _, _, _, _⟩) (v := ?_) rfl (by kernel_rfl) (by kernel_rfl) (by kernel_rfl) (fun _ _ _ h => h) (Or.inl ⟨by rfl, ?_⟩) (by assumption) ?_
      rotate_left 1
      · (intro w hSw; (try dsimp only at hSw); go_simp <;> with_reducible rfl)
      try simp only [Act.put, List.setIfInBounds_toArray, List.set_cons_zero, List.set_cons_succ]
      refine wpAnyH_take (i := 1) (oi := ⟨some 92, _, _, _, _, _⟩) (v := ?_) rfl (by kernel_rfl) (by kernel_rfl) (by kernel_rfl) (fun _ _ _ h => h) (Or.inl ⟨by rfl, ?_⟩) (by assumption) ?_
      rotate_left 1
      · (intro w hSw; (try dsimp only at hSw); go_simp <;> with_reducible rfl)
      try simp only [Act.put, List.setIfInBounds_toArray, List.set_cons_zero, List.set_cons_succ]
      refine wpAnyH_take (i := 2) (oi := ⟨some 93, _, _, _, _, _⟩) (v := ?_) rfl (by kernel_rfl) (by kernel_rfl) (by kernel_rfl) (fun _ _ _ h => h) (Or.inl ⟨by rfl, ?_⟩) (by assumption) ?_
      rotate_left 1
      · (intro w hSw; (try dsimp only at hSw); go_simp <;> with_reducible rfl)
      try simp only [Act.put, List.setIfInBounds_toArray, List.set_cons_zero, List.set_cons_succ]
      refine wpAnyH_take (i := 3) (oi := ⟨some 94, _, _, _, _, _⟩) (v := ?_) rfl (by kernel_rfl) (by kernel_rfl) (by kernel_rfl) (fun _ _ _ h => h) (Or.inl ⟨by rfl, ?_⟩) (by assumption) ?_
      rotate_left 1
      · (intro w hSw; (try dsimp only at hSw); go_simp <;> with_reducible rfl)
      try simp only [Act.put, List.setIfInBounds_toArray, List.set_cons_zero, List.set_cons_succ]
      refine wpAnyH_take (i := 4) (oi := ⟨some 95, _, _, _, _, _⟩) (v := ?_) rfl (by kernel_rfl) (by kernel_rfl) (by kernel_rfl) (fun _ _ _ h => h) (Or.inl ⟨by rfl, ?_⟩) (by assumption) ?_
      rotate_left 1
      · (intro w hSw; (try dsimp only at hSw); go_simp <;> with_reducible rfl)
      try simp only [Act.put, List.setIfInBounds_toArray, List.set_cons_zero, List.set_cons_succ]
      refine wpAnyH_take (i := 5) (oi := ⟨some 96, _, _, _, _, _⟩) (v := ?_) rfl (by kernel_rfl) (by kernel_rfl) (by kernel_rfl) (fun _ _ _ h => h) (Or.inl ⟨by rfl, ?_⟩) (by assumption) ?_
      rotate_left 1
      · (intro w hSw; (try dsimp only at hSw); go_simp <;> with_reducible rfl)
      try simp only [Act.put, List.setIfInBounds_toArray, List.set_cons_zero, List.set_cons_succ]
      refine wpAnyH_ready (rs := [6, 10]) (by kernel_rfl) (by simp) ?_
      refine AllReadyH.cons (o := ⟨some 97, _, _, _, _, _⟩) rfl (fun K hK => ?_) (AllReadyH.cons (o := ⟨some 15, _, _, _, _, _⟩) rfl (fun K hK => ?_) AllReadyH.nil)
      · go_simp
        (first | (with_reducible refine (CR.out _ (Kept.refl wr)).mono ?_) | (with_reducible refine (CR.out _ ((Kept.refl wr).drew)).mono ?_))
        rintro e w4 ⟨⟨vp, vc, vq, ve⟩, rfl, hk4, hl4⟩
        have KX := Lib.hid (show Kept wr w4 from by first | exact (Kept.refl wr).trans hk4 | exact ((Kept.refl wr).drew).trans hk4)
        go_simp
        refine hK.out _ _ ?_ (fun hHeld => ?_)
        · exact SK.out _ KX.out
        clear hK K
        try simp only [Act.put, List.setIfInBounds_toArray, List.set_cons_zero, List.set_cons_succ]
        refine wpAnyH_take (i := 7) (oi := ⟨some 90, _, _, _, _, _⟩) (v := ?_) rfl (by kernel_rfl) (by kernel_rfl) (by kernel_rfl) (fun _ _ _ h => h) (Or.inl ⟨by rfl, ?_⟩) (by assumption) ?_
        rotate_left 1
        · (intro w hSw; (try dsimp only at hSw); go_simp <;> with_reducible rfl)
        try simp only [Act.put, List.setIfInBounds_toArray, List.set_cons_zero, List.set_cons_succ]
        refine wpAnyH_take (i := 8) (oi := ⟨some 98, _, _, _, _, _⟩) (v := ?_) rfl (by kernel_rfl) (by kernel_rfl) (by kernel_rfl) (fun _ _ _ h => h) (Or.inl ⟨by rfl, ?_⟩) (by assumption) ?_
        rotate_left 1
        · (intro w hSw; (try dsimp only at hSw); go_simp <;> with_reducible rfl)
        try simp only [Act.put, List.setIfInBounds_toArray, List.set_cons_zero, List.set_cons_succ]
        refine wpAnyH_take (i := 9) (oi := ⟨some 99, _, _, _, _, _⟩) (v := ?_) rfl (by kernel_rfl) (by kernel_rfl) (by kernel_rfl) (fun _ _ _ h => h) (Or.inl ⟨by rfl, ?_⟩) (by assumption) ?_
        rotate_left 1
        · (intro w hSw; (try dsimp only at hSw); go_simp <;> with_reducible rfl)
        try simp only [Act.put, List.setIfInBounds_toArray, List.set_cons_zero, List.set_cons_succ]
        refine wpAnyH_ready (rs := [10]) (by kernel_rfl) (by simp) ?_
        refine AllReadyH.cons (o := ⟨some 15, _, _, _, _, _⟩) rfl (fun K hK => ?_) AllReadyH.nil
        go_simp
        refine hK.out _ _ ?_ (fun hHeld => ?_)
        · exact SK.out _ (KX.out.alloc _ _)
        clear hK K
        try simp only [Act.put, List.setIfInBounds_toArray, List.set_cons_zero, List.set_cons_succ]
        refine wpAnyH_ready (rs := [11]) (by kernel_rfl) (by simp) ?_
        refine AllReadyH.cons (o := ⟨none, _, _, _, _, _⟩) rfl (fun K hK => ?_) AllReadyH.nil
        go_simp
        refine hK.out _ _ ?_ (fun hHeld => ?_)
        · exact SK.out _ (KX.out.alloc _ _)
        clear hK K
        try simp only [Act.put, List.setIfInBounds_toArray, List.set_cons_zero, List.set_cons_succ]
        refine wpAnyH_take (i := 12) (oi := ⟨some 16, _, _, _, _, _⟩) (v := ?_) rfl (by kernel_rfl) (by kernel_rfl) (by kernel_rfl) (fun _ _ _ h => h) (Or.inl ⟨by rfl, ?_⟩) (by assumption) ?_
        rotate_left 1
        · (intro w hSw; (try dsimp only at hSw); go_simp <;> with_reducible rfl)
        try simp only [Act.put, List.setIfInBounds_toArray, List.set_cons_zero, List.set_cons_succ]
        refine wpAnyH_done (by kernel_rfl) ?_ _
        clear hHeld
        obtain ⟨XB, hXB⟩ : ∃ XB, XB = w4.heap.size := ⟨_, rfl⟩
        obtain ⟨w6, hw6⟩ : ∃ w6, w6 = w4.alloc (.cells #[.int .i64 v.k, .int .i64 v.n, .int .i64 v.f, .string v.s, .slice vp v.l.length vc, .slice vq v.d.length ve] 27) := ⟨_, rfl⟩
        have K6 := Lib.hid (show Kept wr w6 by rw [hw6]; exact KX.out.alloc _ _)
        have B6 := Lib.hid (show Blk w6 XB #[.int .i64 v.k, .int .i64 v.n, .int .i64 v.f, .string v.s, .slice vp v.l.length vc, .slice vq v.d.length ve] 27 by rw [hw6, hXB]; exact Blk.fresh w4 _ _)
        rw [← hw6, ← hXB]
        clear hw6 hXB KX hk4 hl4 hSK SK
        have H6 := Lib.hid (HI.out.kept K6.out)
        have O6 := Lib.hid (HO.out.kept K6.out)
        have KK6 := Lib.hid (In.k H6.out)
        have S6 := Lib.hid (show w3.heap.size + 1 + 1 ≤ w6.heap.size from Nat.le_trans TM.out.lt K6.out.size)
        have RM6 := Lib.hid (H6.out.mem (List.mem_cons_of_mem _ (List.mem_cons_of_mem _ (List.mem_cons_of_mem _ List.mem_cons_self))))
        have TM6 := Lib.hid (H6.out.mem List.mem_cons_self)
        clear r0 r1 r2 rf rz f0 f1 f2 f3 f4 f5 f6 fz z0 z1 z2 z3 z4 z5 zz x0 x1 x2 x3 x4 x5 hbl CR
        have r0 := RM6.out.cell 0
        have r1 := RM6.out.cell 1
        have r2 := RM6.out.cell 2
        have rf := RM6.out.free
        have rz := RM6.out.lt
        obtain ⟨x0, x1, x2, x3, x4, x5⟩ := B6.out.cells6
        have xz := B6.out.lt
        have t0 := TM6.out.cell 0
        have t1 := TM6.out.cell 1
        have t2 := TM6.out.cell 2
        have tz := TM6.out.lt
        by_cases hx : ex = 0
        rotate_left 1
        · have hne : (ex != 0) = true := by simpa using hx
          have HV := Lib.hid (show X = (ex, Mt.noF) by rw [HX2.out, GB.out hx, Mt.listV, if_neg hx])
          clear hx GB GF GS
          go_wp2_with fail
          refine bodyPost_ret (v := .tuple #[.agg #[.int .i64 0, .slice none 0 0, .int .i64 0], .int .i64 ex]) ?_ rfl ⟨none, 0, by rw [HV.out]; rfl, by rw [HV.out]; exact NuB.nil _ _ _, ?_⟩
          · simp [results, Try.results11, go_sem, r0, r1, r2, rz]
          · repeat (with_reducible first | exact KK6.out | refine Kept.drew ?_ | refine Kept.alloc ?_ _ _ | refine Kept.set ?_ (by omega) _)
        subst hx
        rcases Mt.whole_ways 5000 v with ⟨h1, hw⟩ | ⟨h1, h2, hw⟩ | ⟨h1, h2, h3, hw⟩ | ⟨h1, h2, h3, h4, hw⟩ | ⟨h1, h2, h3, h4, hw⟩
        rotate_left 4
        · obtain ⟨-, -, n1, n2, n3⟩ := Mt.num_of hw
          have HV := Lib.hid (GS.out rfl hw)
          obtain ⟨q, hq⟩ : ∃ q, q = Mt.num v := ⟨_, rfl⟩
          rw [← hq] at n3 HV
          have m1 : (v.k != 2) = false := by rw [bne, h1]; rfl
          have m2 : (v.f % 1000 != 0) = false := by rw [← Int.tmod_eq_emod_of_nonneg h3, bne, h2]; rfl
          have m3 : ¬ v.f < 0 := by omega
          have m4 : ¬ (5000000 : Int) < v.f := by omega
          have m5 : v.f / 1000 = (q : Int) := by rw [← n3, Int.tdiv_eq_ediv_of_nonneg h3]
          clear h1 h2 hw hq n3 GB GF GS
          go_wp2_with (at_builtin; refine wpList_app_int rfl _ _ rfl O6.out rfl q (by first | rfl | simp) S6.out (by omega) ?_; intro v' w7 hb7 hbl7; (obtain ⟨pv, cv, hv7, -⟩ := hb7.shape); (obtain ⟨vl, hvl⟩ : ∃ vl, vl = (acc ++ [q]).length := ⟨_, rfl⟩); rw [← hvl] at hv7; clear hvl; subst hv7; (have H7 := Lib.hid (In.below H6.out hbl7 (by have := S4.out; omega) (fun x hx => by (simp only [List.mem_cons, List.not_mem_nil, or_false] at hx; have := S4.out; have := S3.out; have := S2.out; rcases hx with rfl | rfl | rfl | rfl | rfl | rfl <;> simp only [] <;> omega)))); (have O7 := Lib.hid hb7); (have TM7 := Lib.hid (H7.out.mem List.mem_cons_self)); clear t0 t1 t2 tz hb7 hbl7; have t0 := TM7.out.cell 0; have t1 := TM7.out.cell 1; have t2 := TM7.out.cell 2; have tf := TM7.out.free; have tz := TM7.out.lt)
          go_roundg (z.l.length - (j + 1))
          case measure => omega
          case rel =>
            refine ⟨j + 1, acc ++ [q], .slice pv vl cv, rfl, by omega, by go_num, by simp [hja], HV, OwI.set O7.out (Nat.lt_succ_self _) _ _, ?_⟩
            exact In.cons (In.other H7.out.tail (by have := S4.out; omega) (fun x hx => by
              simp only [List.mem_cons, List.not_mem_nil, or_false] at hx
              have := S4.out
              have := S3.out
              have := S2.out
              rcases hx with rfl | rfl | rfl | rfl | rfl <;> simp only [] <;> omega) _) (by simpa using TM7.out.set 1 (.slice pv vl cv))
        all_goals
          have HV := Lib.hid (show X = (3, Mt.noF) by rw [HX2.out, GF.out rfl hw]; rfl)
          clear hw GB GF GS
          first
            | (have m1 : (v.k != 2) = true := by (rw [bne, h1]; rfl))
            | (have m1 : (v.k != 2) = false := by (rw [bne, h1]; rfl))
          try (have m2 : (v.f.tmod 1000 != 0) = true := by (rw [bne, h2]; rfl))
          try (have m2 : (v.f.tmod 1000 != 0) = false := by (rw [bne, h2]; rfl))
          try (have m2b : (v.f % 1000 != 0) = false := by (rw [← Int.tmod_eq_emod_of_nonneg h3, bne, h2]; rfl))
          try (have m4 : (5000000 : Int) < v.f := by omega)
          go_wp2_with fail
          refine bodyPost_ret (v := .tuple #[.agg #[.int .i64 0, .slice none 0 0, .int .i64 0], .int .i64 3]) ?_ rfl ⟨none, 0, by rw [HV.out]; rfl, by rw [HV.out]; exact NuB.nil _ _ _, ?_⟩
          · simp [results, Try.results11, go_sem, r0, r1, r2, rz]
          · repeat (with_reducible first | exact KK6.out | refine Kept.drew ?_ | refine Kept.alloc ?_ _ _ | refine Kept.set ?_ (by omega) _)
      · go_simp
        refine hK.out _ _ ?_ (fun hHeld => ?_)
        · first | exact SK.out _ ((Kept.refl wr).alloc _ _) | exact SK.out _ (((Kept.refl wr).drew).alloc _ _)
        clear hK K
        try simp only [Act.put, List.setIfInBounds_toArray, List.set_cons_zero, List.set_cons_succ]
        refine wpAnyH_ready (rs := [6]) (by kernel_rfl) (by simp) ?_
        refine AllReadyH.cons (o := ⟨some 97, _, _, _, _, _⟩) rfl (fun K hK => ?_) AllReadyH.nil
        go_simp
        (first | (with_reducible refine (CR.out _ (((Kept.refl wr).alloc _ _).drew)).mono ?_) | (with_reducible refine (CR.out _ ((Kept.refl wr).alloc _ _)).mono ?_) | (with_reducible refine (CR.out _ (((Kept.refl wr).drew).alloc _ _)).mono ?_))
        rintro e w4 ⟨⟨vp, vc, vq, ve⟩, rfl, hk4, hl4⟩
        have KX := Lib.hid (show Kept wr w4 from by first | exact (((Kept.refl wr).alloc _ _).drew).trans hk4 | exact ((Kept.refl wr).alloc _ _).trans hk4 | exact (((Kept.refl wr).drew).alloc _ _).trans hk4)
        go_simp
        have hb4 : Blk w4 wr.heap.size nul6 27 := by first | exact ((Blk.fresh wr nul6 27).drew).kept hk4 | exact (Blk.fresh wr nul6 27).kept hk4
        have u0 := hb4.cell 0
        have u1 := hb4.cell 1
        have u2 := hb4.cell 2
        have u3 := hb4.cell 3
        have u4 := hb4.cell 4
        have u5 := hb4.cell 5
        have uf := hb4.free
        have uz := hb4.lt
        refine hK.out _ _ ?_ (fun hHeld => ?_)
        · exact SK.out _ KX.out
        clear hK K
        try simp only [Act.put, List.setIfInBounds_toArray, List.set_cons_zero, List.set_cons_succ]
        refine wpAnyH_take (i := 7) (oi := ⟨some 90, _, _, _, _, _⟩) (v := ?_) rfl (by kernel_rfl) (by kernel_rfl) (by kernel_rfl) (fun _ _ _ h => h) (Or.inl ⟨by rfl, ?_⟩) (by assumption) ?_
        rotate_left 1
        · (intro w hSw; (try dsimp only at hSw); go_simp <;> with_reducible rfl)
        try simp only [Act.put, List.setIfInBounds_toArray, List.set_cons_zero, List.set_cons_succ]
        refine wpAnyH_take (i := 8) (oi := ⟨some 98, _, _, _, _, _⟩) (v := ?_) rfl (by kernel_rfl) (by kernel_rfl) (by kernel_rfl) (fun _ _ _ h => h) (Or.inl ⟨by rfl, ?_⟩) (by assumption) ?_
        rotate_left 1
        · (intro w hSw; (try dsimp only at hSw); go_simp <;> with_reducible rfl)
        try simp only [Act.put, List.setIfInBounds_toArray, List.set_cons_zero, List.set_cons_succ]
        refine wpAnyH_take (i := 9) (oi := ⟨some 99, _, _, _, _, _⟩) (v := ?_) rfl (by kernel_rfl) (by kernel_rfl) (by kernel_rfl) (fun _ _ _ h => h) (Or.inl ⟨by rfl, ?_⟩) (by assumption) ?_
        rotate_left 1
        · (intro w hSw; (try dsimp only at hSw); go_simp <;> with_reducible rfl)
        try simp only [Act.put, List.setIfInBounds_toArray, List.set_cons_zero, List.set_cons_succ]
        refine wpAnyH_ready (rs := [11]) (by kernel_rfl) (by simp) ?_
        refine AllReadyH.cons (o := ⟨none, _, _, _, _, _⟩) rfl (fun K hK => ?_) AllReadyH.nil
        go_simp
        refine hK.out _ _ ?_ (fun hHeld => ?_)
        · exact SK.out _ ((((((KX.out.set (Nat.le_refl _) _).set (Nat.le_refl _) _).set (Nat.le_refl _) _).set (Nat.le_refl _) _).set (Nat.le_refl _) _).set (Nat.le_refl _) _)
        clear hK K
        try simp only [Act.put, List.setIfInBounds_toArray, List.set_cons_zero, List.set_cons_succ]
        refine wpAnyH_take (i := 12) (oi := ⟨some 16, _, _, _, _, _⟩) (v := ?_) rfl (by kernel_rfl) (by kernel_rfl) (by kernel_rfl) (fun _ _ _ h => h) (Or.inl ⟨by rfl, ?_⟩) (by assumption) ?_
        rotate_left 1
        · (intro w hSw; (try dsimp only at hSw); go_simp <;> with_reducible rfl)
        try simp only [Act.put, List.setIfInBounds_toArray, List.set_cons_zero, List.set_cons_succ]
        refine wpAnyH_done (by kernel_rfl) ?_ _
        clear hHeld
        obtain ⟨w6, hw6⟩ : ∃ w6, w6 = ((((((w4.setCell ⟨wr.heap.size, 0, none⟩ (.int .i64 v.k)).setCell ⟨wr.heap.size, 1, none⟩ (.int .i64 v.n)).setCell ⟨wr.heap.size, 2, none⟩ (.int .i64 v.f)).setCell ⟨wr.heap.size, 3, none⟩ (.string v.s)).setCell ⟨wr.heap.size, 4, none⟩ (.slice vp v.l.length vc)).setCell ⟨wr.heap.size, 5, none⟩ (.slice vq v.d.length ve)) := ⟨_, rfl⟩
        obtain ⟨XB, hXB⟩ : ∃ XB, XB = wr.heap.size := ⟨_, rfl⟩
        have K6 := Lib.hid (show Kept wr w6 by rw [hw6]; exact (((((KX.out.set (Nat.le_refl _) _).set (Nat.le_refl _) _).set (Nat.le_refl _) _).set (Nat.le_refl _) _).set (Nat.le_refl _) _).set (Nat.le_refl _) _)
        have B6 := Lib.hid (show Blk w6 XB #[.int .i64 v.k, .int .i64 v.n, .int .i64 v.f, .string v.s, .slice vp v.l.length vc, .slice vq v.d.length ve] 27 by rw [hw6, hXB]; have := (((((hb4.set 0 (.int .i64 v.k)).set 1 (.int .i64 v.n)).set 2 (.int .i64 v.f)).set 3 (.string v.s)).set 4 (.slice vp v.l.length vc)).set 5 (.slice vq v.d.length ve); simpa using this)
        rw [← hw6, ← hXB]
        clear hw6 hXB KX hk4 hl4 hb4 u0 u1 u2 u3 u4 u5 uf uz hSK SK
        have H6 := Lib.hid (HI.out.kept K6.out)
        have O6 := Lib.hid (HO.out.kept K6.out)
        have KK6 := Lib.hid (In.k H6.out)
        have S6 := Lib.hid (show w3.heap.size + 1 + 1 ≤ w6.heap.size from Nat.le_trans TM.out.lt K6.out.size)
        have RM6 := Lib.hid (H6.out.mem (List.mem_cons_of_mem _ (List.mem_cons_of_mem _ (List.mem_cons_of_mem _ List.mem_cons_self))))
        have TM6 := Lib.hid (H6.out.mem List.mem_cons_self)
        clear r0 r1 r2 rf rz f0 f1 f2 f3 f4 f5 f6 fz z0 z1 z2 z3 z4 z5 zz x0 x1 x2 x3 x4 x5 hbl CR
        have r0 := RM6.out.cell 0
        have r1 := RM6.out.cell 1
        have r2 := RM6.out.cell 2
        have rf := RM6.out.free
        have rz := RM6.out.lt
        obtain ⟨x0, x1, x2, x3, x4, x5⟩ := B6.out.cells6
        have xz := B6.out.lt
        have t0 := TM6.out.cell 0
        have t1 := TM6.out.cell 1
        have t2 := TM6.out.cell 2
        have tz := TM6.out.lt
        by_cases hx : ex = 0
        rotate_left 1
        · have hne : (ex != 0) = true := by simpa using hx
          have HV := Lib.hid (show X = (ex, Mt.noF) by rw [HX2.out, GB.out hx, Mt.listV, if_neg hx])
          clear hx GB GF GS
          go_wp2_with fail
          refine bodyPost_ret (v := .tuple #[.agg #[.int .i64 0, .slice none 0 0, .int .i64 0], .int .i64 ex]) ?_ rfl ⟨none, 0, by rw [HV.out]; rfl, by rw [HV.out]; exact NuB.nil _ _ _, ?_⟩
          · simp [results, Try.results11, go_sem, r0, r1, r2, rz]
          · repeat (with_reducible first | exact KK6.out | refine Kept.drew ?_ | refine Kept.alloc ?_ _ _ | refine Kept.set ?_ (by omega) _)
        subst hx
        rcases Mt.whole_ways 5000 v with ⟨h1, hw⟩ | ⟨h1, h2, hw⟩ | ⟨h1, h2, h3, hw⟩ | ⟨h1, h2, h3, h4, hw⟩ | ⟨h1, h2, h3, h4, hw⟩
        rotate_left 4
        · obtain ⟨-, -, n1, n2, n3⟩ := Mt.num_of hw
          have HV := Lib.hid (GS.out rfl hw)
          obtain ⟨q, hq⟩ : ∃ q, q = Mt.num v := ⟨_, rfl⟩
          rw [← hq] at n3 HV
          have m1 : (v.k != 2) = false := by rw [bne, h1]; rfl
          have m2 : (v.f % 1000 != 0) = false := by rw [← Int.tmod_eq_emod_of_nonneg h3, bne, h2]; rfl
          have m3 : ¬ v.f < 0 := by omega
          have m4 : ¬ (5000000 : Int) < v.f := by omega
          have m5 : v.f / 1000 = (q : Int) := by rw [← n3, Int.tdiv_eq_ediv_of_nonneg h3]
          clear h1 h2 hw hq n3 GB GF GS
          go_wp2_with (at_builtin; refine wpList_app_int rfl _ _ rfl O6.out rfl q (by first | rfl | simp) S6.out (by omega) ?_; intro v' w7 hb7 hbl7; (obtain ⟨pv, cv, hv7, -⟩ := hb7.shape); (obtain ⟨vl, hvl⟩ : ∃ vl, vl = (acc ++ [q]).length := ⟨_, rfl⟩); rw [← hvl] at hv7; clear hvl; subst hv7; (have H7 := Lib.hid (In.below H6.out hbl7 (by have := S4.out; omega) (fun x hx => by (simp only [List.mem_cons, List.not_mem_nil, or_false] at hx; have := S4.out; have := S3.out; have := S2.out; rcases hx with rfl | rfl | rfl | rfl | rfl | rfl <;> simp only [] <;> omega)))); (have O7 := Lib.hid hb7); (have TM7 := Lib.hid (H7.out.mem List.mem_cons_self)); clear t0 t1 t2 tz hb7 hbl7; have t0 := TM7.out.cell 0; have t1 := TM7.out.cell 1; have t2 := TM7.out.cell 2; have tf := TM7.out.free; have tz := TM7.out.lt)
          go_roundg (z.l.length - (j + 1))
          case measure => omega
          case rel =>
            refine ⟨j + 1, acc ++ [q], .slice pv vl cv, rfl, by omega, by go_num, by simp [hja], HV, OwI.set O7.out (Nat.lt_succ_self _) _ _, ?_⟩
            exact In.cons (In.other H7.out.tail (by have := S4.out; omega) (fun x hx => by
              simp only [List.mem_cons, List.not_mem_nil, or_false] at hx
              have := S4.out
              have := S3.out
              have := S2.out
              rcases hx with rfl | rfl | rfl | rfl | rfl <;> simp only [] <;> omega) _) (by simpa using TM7.out.set 1 (.slice pv vl cv))
        all_goals
          have HV := Lib.hid (show X = (3, Mt.noF) by rw [HX2.out, GF.out rfl hw]; rfl)
          clear hw GB GF GS
          first
            | (have m1 : (v.k != 2) = true := by (rw [bne, h1]; rfl))
            | (have m1 : (v.k != 2) = false := by (rw [bne, h1]; rfl))
          try (have m2 : (v.f.tmod 1000 != 0) = true := by (rw [bne, h2]; rfl))
          try (have m2 : (v.f.tmod 1000 != 0) = false := by (rw [bne, h2]; rfl))
          try (have m2b : (v.f % 1000 != 0) = false := by (rw [← Int.tmod_eq_emod_of_nonneg h3, bne, h2]; rfl))
          try (have m4 : (5000000 : Int) < v.f := by omega)
          go_wp2_with fail
          refine bodyPost_ret (v := .tuple #[.agg #[.int .i64 0, .slice none 0 0, .int .i64 0], .int .i64 3]) ?_ rfl ⟨none, 0, by rw [HV.out]; rfl, by rw [HV.out]; exact NuB.nil _ _ _, ?_⟩
          · simp [results, Try.results11, go_sem, r0, r1, r2, rz]
          · repeat (with_reducible first | exact KK6.out | refine Kept.drew ?_ | refine Kept.alloc ?_ _ _ | refine Kept.set ?_ (by omega) _)
    · obtain rfl : j = z.l.length := by omega
      have HU0 := Lib.hid (show U = (0, acc) by rw [← HG.out, List.drop_eq_nil_of_le (Nat.le_refl _), Mt.goV_nil])
      have HX3 := Lib.hid (show X = if V.1 = 0 then (if V.2.n = 1 ∧ Mt.whole 255 V.2 = true then (0, ⟨Mt.num V.2, acc, 0⟩) else (3, Mt.noF)) else (V.1, Mt.noF) by rw [HX2.out, HU0.out, Mt.listV, if_pos rfl])
      obtain ⟨q0, c0, hv, hnu⟩ := HO.out.nuB
      subst hv
      have NU := Lib.hid hnu
      have CE := Lib.hid (fun W (k : Kept wr W) => (show Calls Try.prog 27 #[fileV l p c t ht, objV y ⟨yp, yc, yq, ye⟩, .string ⟨#[70, 105, 114, 115, 116, 67, 104, 97, 114]⟩] W _ from REntry_any _ l p c t ht y ⟨yp, yc, yq, ye⟩ Mt.keyF W ((HN.out.kept KI.out).kept k) ((HLY.out wr KI.out).kept k) V HVV.out))
      clear hnu HG HX2 HU0 HVV hja
      obtain ⟨ec, v⟩ := V
      unfold fileV objV at CE
      simp only [] at CE HX3
      obtain ⟨y0, y1, y2, y3, y4, y5⟩ := YM.out.cells6
      have yz := YM.out.lt
      go_wp2_with fail
      (with_reducible refine (CE.out _ (Kept.refl _)).mono ?_)
      rintro e w6 ⟨⟨vp, vc, vq, ve⟩, rfl, hk6, hl6⟩
      have H6 := Lib.hid (In.fresh (HI.out.kept hk6) #[.int .i64 v.k, .int .i64 v.n, .int .i64 v.f, .string v.s, .slice vp v.l.length vc, .slice vq v.d.length ve] 27)
      have N6 := Lib.hid (NuB.alloc (NU.out.kept hk6) (.cells #[.int .i64 v.k, .int .i64 v.n, .int .i64 v.f, .string v.s, .slice vp v.l.length vc, .slice vq v.d.length ve] 27))
      have KK6 := Lib.hid (In.k H6.out)
      have S6 := Lib.hid (show w3.heap.size + 1 < w6.heap.size from Nat.lt_of_lt_of_le TM.out.lt hk6.size)
      have RM6 := Lib.hid (H6.out.mem (List.mem_cons_of_mem _ (List.mem_cons_of_mem _ (List.mem_cons_of_mem _ (List.mem_cons_of_mem _ List.mem_cons_self)))))
      have TM6 := Lib.hid (H6.out.mem (List.mem_cons_of_mem _ List.mem_cons_self))
      clear r0 r1 r2 rf rz f0 f1 f2 f3 f4 f5 f6 fz z0 z1 z2 z3 z4 z5 zz y0 y1 y2 y3 y4 y5 yz hk6 hl6 CE
      have r0 := RM6.out.cell 0
      have r1 := RM6.out.cell 1
      have r2 := RM6.out.cell 2
      have rf := RM6.out.free
      have rz := RM6.out.lt
      have t0 := TM6.out.cell 0
      have t1 := TM6.out.cell 1
      have t2 := TM6.out.cell 2
      have tf := TM6.out.free
      have tz := TM6.out.lt
      simp only []
      by_cases hx : ec = 0
      rotate_left 1
      · have hne : (ec != 0) = true := by simpa using hx
        have HV := Lib.hid (show X = (ec, Mt.noF) by rw [HX3.out, if_neg hx])
        clear hx
        go_wp2_with fail
        refine bodyPost_ret (v := .tuple #[.agg #[.int .i64 0, .slice none 0 0, .int .i64 0], .int .i64 ec]) ?_ rfl ⟨none, 0, by rw [HV.out]; rfl, by rw [HV.out]; exact NuB.nil _ _ _, ?_⟩
        · simp [results, Try.results11, go_sem, r0, r1, r2, rz]
        · repeat (with_reducible first | exact KK6.out | refine Kept.drew ?_ | refine Kept.alloc ?_ _ _ | refine Kept.set ?_ (by omega) _)
      subst hx
      have HX4 := Lib.hid (show X = if v.n = 1 ∧ Mt.whole 255 v = true then (0, ⟨Mt.num v, acc, 0⟩) else (3, Mt.noF) by rw [HX3.out, if_pos rfl])
      clear HX3
      rcases Mt.whole_ways2 255 v with ⟨h1, hw⟩ | ⟨h1, h2, hw⟩ | ⟨h1, h2, h3, hw⟩ | ⟨h1, h2, h3, h4, hw⟩ | ⟨h1, h2, h3, h4, hw⟩
      all_goals
        first
          | (have m1 : (v.k != 2) = true := by (rw [bne, h1]; rfl))
          | (have m1 : (v.k != 2) = false := by (rw [bne, h1]; rfl))
        by_cases hn1 : v.n = 1
        rotate_left 1
        · have m2 : (v.n != 1) = true := by simpa using hn1
          have HV := Lib.hid (show X = (3, Mt.noF) by rw [HX4.out, if_neg (fun h => hn1 h.1)])
          clear hn1 hw HX4
          try clear h2
          try clear h3
          try clear h4
          go_wp2_with fail
          refine bodyPost_ret (v := .tuple #[.agg #[.int .i64 0, .slice none 0 0, .int .i64 0], .int .i64 3]) ?_ rfl ⟨none, 0, by rw [HV.out]; rfl, by rw [HV.out]; exact NuB.nil _ _ _, ?_⟩
          · simp [results, Try.results11, go_sem, r0, r1, r2, rz]
          · repeat (with_reducible first | exact KK6.out | refine Kept.drew ?_ | refine Kept.alloc ?_ _ _ | refine Kept.set ?_ (by omega) _)
        have m2 : (v.n != 1) = false := by rw [hn1]; rfl
        try (have m3 : ¬ v.f < 0 := by omega)
        try (have m4 : ¬ (255000 : Int) < v.f := by omega)
        try (have m4b : (255000 : Int) < v.f := by omega)
        try (have m5 : (v.f % 1000 != 0) = true := by (rw [bne, h4]; rfl))
        try (have m5 : (v.f % 1000 != 0) = false := by (rw [bne, h4]; rfl))
      rotate_left 4
      · have HV := Lib.hid (show X = (0, ⟨Mt.num v, acc, 0⟩) by rw [HX4.out, if_pos ⟨hn1, hw⟩])
        obtain ⟨-, -, -, -, n3⟩ := Mt.num_of hw
        obtain ⟨q, hq⟩ : ∃ q, q = Mt.num v := ⟨_, rfl⟩
        rw [← hq] at n3 HV
        have m6 : v.f / 1000 = (q : Int) := by rw [← n3, Int.tdiv_eq_ediv_of_nonneg h2]
        clear hn1 hw HX4 h1 h4 n3 hq
        have ne1 : ¬ (w.heap.size + 1 + 1 = w3.heap.size + 1) := by have := S4.out; omega
        have ne2 : ¬ (w3.heap.size + 1 = w.heap.size + 1 + 1) := by have := S4.out; omega
        have ne3 : ¬ (w.heap.size + 1 = w3.heap.size) := by have := S4.out; omega
        have ne4 : ¬ (w3.heap.size = w.heap.size + 1) := by have := S4.out; omega
        go_wp2_with fail
        refine bodyPost_ret (v := .tuple #[.agg #[.int .i64 q, .slice q0 acc.length c0, .int .i64 0], .int .i64 0]) ?_ rfl ⟨q0, c0, by rw [HV.out]; rfl, by rw [HV.out]; exact NuB.mono (B := w3.heap.size + 1 + 1) (by repeat (with_reducible first | exact N6.out | refine NuB.set ?_ (by have := S2.out; have := S3.out; omega) _ _)) (by have := S2.out; have := S3.out; omega), ?_⟩
        · simp [results, Try.results11, go_sem, r0, r1, r2, rz]
        · repeat (with_reducible first | exact KK6.out | refine Kept.drew ?_ | refine Kept.alloc ?_ _ _ | refine Kept.set ?_ (by omega) _ | refine Kept.set ?_ (by have := S4.out; omega) _)
      all_goals
        have HV := Lib.hid (show X = (3, Mt.noF) by rw [HX4.out, if_neg (by rw [hw]; exact fun h => by cases h.2)])
        clear hn1 hw HX4
        go_wp2_with fail
        refine bodyPost_ret (v := .tuple #[.agg #[.int .i64 0, .slice none 0 0, .int .i64 0], .int .i64 3]) ?_ rfl ⟨none, 0, by rw [HV.out]; rfl, by rw [HV.out]; exact NuB.nil _ _ _, ?_⟩
        · simp [results, Try.results11, go_sem, r0, r1, r2, rz]
        · repeat (with_reducible first | exact KK6.out | refine Kept.drew ?_ | refine Kept.alloc ?_ _ _ | refine Kept.set ?_ (by omega) _)

end Go.Proofs.Ytakbhdhlcnpejaa
