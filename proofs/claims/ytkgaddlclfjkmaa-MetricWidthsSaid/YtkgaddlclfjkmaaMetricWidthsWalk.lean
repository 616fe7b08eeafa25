/-
  How wide any text is, in any font, and in any size.
-/
import Derived.Test.YtkgaddlclfjkmaaMetAwake
import Derived.Test.YtkgaddlclfjkmaaMetRefSane
import Derived.Test.YtkgaddlclfjkmaaMetRefWidth
namespace Go.Proofs.Ytkgaddlclfjkmaa
open Go.RowKit
set_option linter.unusedSimpArgs false
set_option linter.unusedVariables false

theorem Width_as (t : Mt.Fo) (f o : Int) (p : Option Addr) (L c : Nat) (hf : (t.first : Int) = f) (ho : (t.other : Int) = o) (hL : t.ws.length = L) (hs : t.Sane) (s : ByteArray) (v : Nat) (hv : t.width s.data.toList = v) (hl : s.size ≤ 4294967296) (w : World) (h : NuR w w.heap.size p t.ws) :
    Calls Try.prog 13 #[.agg #[.int .i64 f, .slice p L c, .int .i64 o], .string s] w fun e w' => e = .returned (.int .i64 v) ∧ Kept w w' := by
  subst hf ho hL hv
  exact Width_any t p c s w h hs hl
theorem RWidth_as (t : Mt.Fo) (f o : Int) (p : Option Addr) (L c : Nat) (hf : (t.first : Int) = f) (ho : (t.other : Int) = o) (hL : t.ws.length = L) (hs : t.Sane) (s : ByteArray) (v : Nat) (hv : t.width s.data.toList = v) (hl : s.size ≤ 4294967296) (w : World) (h : NuR w w.heap.size p t.ws) :
    Calls Try.prog 14 #[.agg #[.int .i64 f, .slice p L c, .int .i64 o], .string s] w fun e w' => e = .returned (.int .i64 v) ∧ Kept w w' := by
  subst hf ho hL hv
  exact RWidth_any t p c s w h hs hl

set_option maxRecDepth 100000 in
theorem Advance_as (z f o : Int) (p : Option Addr) (L c : Nat) (s : ByteArray) (v : Nat) (w : World) (C : ∀ wx, Kept w wx → Calls Try.prog 13 #[.agg #[.int .i64 f, .slice p L c, .int .i64 o], .string s] wx fun e w' => e = .returned (.int .i64 v) ∧ Kept wx w') :
    Calls Try.prog 11 #[.agg #[.int .i64 f, .slice p L c, .int .i64 o], .string s, .int .i64 z] w fun e w' => e = .returned (.tuple #[.int .i64 (Fx.mulV z v), .int .i64 (Fx.mulE z v)]) ∧ Kept w w' := by
  have C1 := Lib.hid (C _ ((Kept.refl w).alloc #[.int .i64 f, .slice p L c, .int .i64 o] 28))
  have C2 := Lib.hid (fun wx => Mul_any z v wx)
  obtain ⟨A, hA⟩ : ∃ A, A = Fx.mulV z v := ⟨_, rfl⟩
  obtain ⟨E, hE⟩ : ∃ E, E = Fx.mulE z v := ⟨_, rfl⟩
  rw [← hA, ← hE] at C2 ⊢
  clear C hA hE
  go_enter Try.func11, Try.ntmps11
  go_wp2_with fail
  (with_reducible refine C1.out.mono ?_)
  rintro e w1 ⟨rfl, hk1⟩
  have K1 := Lib.hid (show Kept w w1 from ((Kept.refl w).alloc _ _).trans hk1)
  clear hk1
  go_wp2_with fail
  (with_reducible refine (C2.out _).mono ?_)
  rintro e w2 ⟨rfl, hk2⟩
  have K2 := Lib.hid (K1.out.trans hk2)
  clear hk2
  go_wp2_with fail
  go_ret2
  exact ⟨rfl, K2.out⟩
set_option maxRecDepth 100000 in
theorem RAdvance_as (z f o : Int) (p : Option Addr) (L c : Nat) (s : ByteArray) (v : Nat) (w : World) (C : ∀ wx, Kept w wx → Calls Try.prog 14 #[.agg #[.int .i64 f, .slice p L c, .int .i64 o], .string s] wx fun e w' => e = .returned (.int .i64 v) ∧ Kept wx w') :
    Calls Try.prog 12 #[.agg #[.int .i64 f, .slice p L c, .int .i64 o], .string s, .int .i64 z] w fun e w' => e = .returned (.tuple #[.int .i64 (Fx.mulV z v), .int .i64 (Fx.mulE z v)]) ∧ Kept w w' := by
  have C1 := Lib.hid (C _ ((Kept.refl w).alloc #[.int .i64 f, .slice p L c, .int .i64 o] 24))
  have C2 := Lib.hid (fun wx => RMul_any z v wx)
  obtain ⟨A, hA⟩ : ∃ A, A = Fx.mulV z v := ⟨_, rfl⟩
  obtain ⟨E, hE⟩ : ∃ E, E = Fx.mulE z v := ⟨_, rfl⟩
  rw [← hA, ← hE] at C2 ⊢
  clear C hA hE
  go_enter Try.func12, Try.ntmps12
  go_wp2_with fail
  (with_reducible refine C1.out.mono ?_)
  rintro e w1 ⟨rfl, hk1⟩
  have K1 := Lib.hid (show Kept w w1 from ((Kept.refl w).alloc _ _).trans hk1)
  clear hk1
  go_wp2_with fail
  (with_reducible refine (C2.out _).mono ?_)
  rintro e w2 ⟨rfl, rfl⟩
  go_wp2_with fail
  go_ret2
  exact ⟨rfl, K1.out⟩

set_option maxRecDepth 100000 in
set_option maxHeartbeats 16000000 in
theorem MetricWidths_walk (v : Value) (f : Int) (X : List Int) (o : Int) (s : ByteArray) (z : Int) (w : World) (hv : FontArg w v f X o) (ha9 : s.size ≤ 140737488355328) :
    Calls Try.prog 3 #[v, .string s, .int .i64 z] w fun e w' => e = .returned (.bool true) ∧ Kept w w' := by
  obtain ⟨p, c, rfl, hX, hlc, hcm, hfb, hob⟩ := hv
  obtain ⟨L, hL⟩ : ∃ L, L = X.length := ⟨_, rfl⟩
  have RS := Lib.hid (fun wx (k : Kept w wx) => RSane_any f X o p c wx (hX.keep k) hlc hcm)
  rw [← hL] at RS ⊢
  have AW := Lib.hid (fun wx => awake13_any wx)
  have HX := Lib.hid hX
  have HLL := Lib.hid hL
  clear hX hL hlc hcm
  cases hs : Mt.saneB f X o
  · rw [hs] at RS
    clear hs hfb hob ha9
    go_enter Try.func3, Try.ntmps3
    go_wp2_with fail
    (with_reducible refine (AW.out _).mono ?_)
    rintro e w1 ⟨rfl, hk1⟩
    have K1 := Lib.hid (show Kept w w1 from ((Kept.refl w).alloc _ _).trans hk1)
    have B1 := Lib.hid (show Blk w1 w.heap.size #[.int .i64 f, .slice p L c, .int .i64 o] 24 from (Blk.fresh w _ _).kept hk1)
    clear hk1
    have e0 := B1.out.cell 0
    have e1 := B1.out.cell 1
    have e2 := B1.out.cell 2
    go_wp2_with fail
    (with_reducible refine (RS.out _ K1.out).mono ?_)
    rintro e w2 ⟨rfl, hk2⟩
    have K2 := Lib.hid (K1.out.trans hk2)
    clear hk2 e0 e1 e2
    go_wp2_with fail
    go_ret
    exact ⟨rfl, K2.out⟩
  rw [hs] at RS
  obtain ⟨t1, t2, t3, t4, t5⟩ := Mt.sane_of hs
  have NU := Lib.hid (fun wx (k : Kept w wx) => (NuR.of_ints HX.out hs).keep (Nat.le_refl _) k |>.up (Below.size k))
  obtain ⟨t, ht⟩ : ∃ t, t = Mt.ofInts f X o := ⟨_, rfl⟩
  rw [← ht] at t1 t2 t3 t4 NU
  clear t5 ht hs
  by_cases hbig : (1000 : Int) < (s.size : Int)
  · clear t1 t2 t3 t4 hfb hob
    go_enter Try.func3, Try.ntmps3
    go_wp2_with fail
    (with_reducible refine (AW.out _).mono ?_)
    rintro e w1 ⟨rfl, hk1⟩
    have K1 := Lib.hid (show Kept w w1 from ((Kept.refl w).alloc _ _).trans hk1)
    have B1 := Lib.hid (show Blk w1 w.heap.size #[.int .i64 f, .slice p L c, .int .i64 o] 24 from (Blk.fresh w _ _).kept hk1)
    clear hk1
    have e0 := B1.out.cell 0
    have e1 := B1.out.cell 1
    have e2 := B1.out.cell 2
    go_wp2_with fail
    (with_reducible refine (RS.out _ K1.out).mono ?_)
    rintro e w2 ⟨rfl, hk2⟩
    have K2 := Lib.hid (K1.out.trans hk2)
    clear hk2 e0 e1 e2
    go_wp2_with fail
    go_ret
    exact ⟨rfl, K2.out⟩
  · have hsz : s.size ≤ 1000 := by omega
    obtain ⟨vs, hvs⟩ : ∃ n, n = t.width s.data.toList := ⟨_, rfl⟩
    have CW := Lib.hid (fun wx (k : Kept w wx) => Width_as t f o p L c t2 t3 (t4.trans HLL.out.symm) t1 s vs hvs.symm (by omega) wx (NU.out wx k))
    have CR := Lib.hid (fun wx (k : Kept w wx) => RWidth_as t f o p L c t2 t3 (t4.trans HLL.out.symm) t1 s vs hvs.symm (by omega) wx (NU.out wx k))
    have CA := Lib.hid (fun wx (k : Kept w wx) => Advance_as z f o p L c s vs wx (fun wy ky => CW.out wy (k.trans ky)))
    have CB := Lib.hid (fun wx (k : Kept w wx) => RAdvance_as z f o p L c s vs wx (fun wy ky => CR.out wy (k.trans ky)))
    obtain ⟨a, ha⟩ : ∃ a, a = Fx.mulV z vs := ⟨_, rfl⟩
    obtain ⟨er, he⟩ : ∃ er, er = Fx.mulE z vs := ⟨_, rfl⟩
    rw [← ha, ← he] at CA CB
    have i1 : ((vs : Int) == (vs : Int)) = true := by simp
    have i2 : (a == a) = true := by simp
    have i3 : (er == er) = true := by simp
    clear hvs ha he NU t1 t2 t3 t4
    go_enter Try.func3, Try.ntmps3
    go_wp2_with fail
    (with_reducible refine (AW.out _).mono ?_)
    rintro e w1 ⟨rfl, hk1⟩
    have K1 := Lib.hid (show Kept w w1 from ((Kept.refl w).alloc _ _).trans hk1)
    have B1 := Lib.hid (show Blk w1 w.heap.size #[.int .i64 f, .slice p L c, .int .i64 o] 24 from (Blk.fresh w _ _).kept hk1)
    clear hk1
    have e0 := B1.out.cell 0
    have e1 := B1.out.cell 1
    have e2 := B1.out.cell 2
    go_wp2_with fail
    (with_reducible refine (RS.out _ K1.out).mono ?_)
    rintro e w2 ⟨rfl, hk2⟩
    have K2 := Lib.hid (K1.out.trans hk2)
    have B2 := Lib.hid (B1.out.kept hk2)
    clear hk2 e0 e1 e2
    have e0 := B2.out.cell 0
    have e1 := B2.out.cell 1
    have e2 := B2.out.cell 2
    go_wp2_with fail
    (with_reducible refine (CA.out _ (K2.out.alloc _ _)).mono ?_)
    rintro e w3 ⟨rfl, hk3⟩
    have K3 := Lib.hid (show Kept w w3 from (K2.out.alloc _ _).trans hk3)
    have B3 := Lib.hid (show Blk w3 w2.heap.size #[.int .i64 f, .slice p L c, .int .i64 o] 28 from (Blk.fresh w2 _ _).kept hk3)
    have B4 := Lib.hid (show Blk w3 w.heap.size #[.int .i64 f, .slice p L c, .int .i64 o] 24 from (B2.out.alloc _).kept hk3)
    clear hk3 e0 e1 e2
    have e0 := B4.out.cell 0
    have e1 := B4.out.cell 1
    have e2 := B4.out.cell 2
    go_wp2_with fail
    (with_reducible refine (CB.out _ K3.out).mono ?_)
    rintro e w4 ⟨rfl, hk4⟩
    have K4 := Lib.hid (show Kept w w4 from K3.out.trans hk4)
    have B5 := Lib.hid (B3.out.kept hk4)
    have B6 := Lib.hid (B4.out.kept hk4)
    clear hk4 e0 e1 e2
    go_upto_region 7 with fail
    obtain ⟨B, hB⟩ : ∃ B, B = w2.heap.size := ⟨_, rfl⟩
    obtain ⟨A, hA⟩ : ∃ A, A = w.heap.size := ⟨_, rfl⟩
    rw [← hB] at B5
    rw [← hA] at B6
    rw [← hB, ← hA]
    clear hB hA
    have SK := Lib.hid (show ∀ w', Kept w4 w' → (w'.cell? ⟨B, 0, none⟩ = some (.int .i64 f) ∧ w'.cell? ⟨B, 1, none⟩ = some (.slice p L c) ∧ w'.cell? ⟨B, 2, none⟩ = some (.int .i64 o)) ∧ (w'.cell? ⟨A, 0, none⟩ = some (.int .i64 f) ∧ w'.cell? ⟨A, 1, none⟩ = some (.slice p L c) ∧ w'.cell? ⟨A, 2, none⟩ = some (.int .i64 o)) from fun w' k => by
      have bb := B5.out.kept k
      have cc := B6.out.kept k
      exact ⟨⟨bb.cell 0, bb.cell 1, bb.cell 2⟩, cc.cell 0, cc.cell 1, cc.cell 2⟩)
    have KX := Lib.hid (Kept.refl w4)
    have KY := Lib.hid (fun wx (k : Kept w4 wx) => (K4.out.trans k : Kept w wx))
    obtain ⟨⟨s0, s1, s2⟩, r0, r1, r2⟩ := SK.out _ KX.out
    refine wp_region_held_drew (S := fun w' => (w'.cell? ⟨B, 0, none⟩ = some (.int .i64 f) ∧ w'.cell? ⟨B, 1, none⟩ = some (.slice p L c) ∧ w'.cell? ⟨B, 2, none⟩ = some (.int .i64 o)) ∧ (w'.cell? ⟨A, 0, none⟩ = some (.int .i64 f) ∧ w'.cell? ⟨A, 1, none⟩ = some (.slice p L c) ∧ w'.cell? ⟨A, 2, none⟩ = some (.int .i64 o))) (by kernel_rfl) ?_ (fun hHeld => ?_)
    · exact ⟨⟨s0, s1, s2⟩, r0, r1, r2⟩
    refine wpAnyH_take (i := 0) (oi := ⟨some 44, _, _, _, _, _⟩) (v := ?_) rfl (by kernel_rfl) (by kernel_rfl) (by kernel_rfl) (fun _ _ _ h => h) (Or.inl ⟨by rfl, ?_⟩) (by assumption) ?_
    rotate_left 1
    · (intro w hSw; (try dsimp only at hSw); go_simp <;> with_reducible rfl)
    try simp only [Act.put, List.setIfInBounds_toArray, List.set_cons_zero, List.set_cons_succ]
    refine wpAnyH_take (i := 1) (oi := ⟨some 45, _, _, _, _, _⟩) (v := ?_) rfl (by kernel_rfl) (by kernel_rfl) (by kernel_rfl) (fun _ _ _ h => h) (Or.inl ⟨by rfl, ?_⟩) (by assumption) ?_
    rotate_left 1
    · (intro w hSw; (try dsimp only at hSw); go_simp <;> with_reducible rfl)
    try simp only [Act.put, List.setIfInBounds_toArray, List.set_cons_zero, List.set_cons_succ]
    refine wpAnyH_take (i := 2) (oi := ⟨some 46, _, _, _, _, _⟩) (v := ?_) rfl (by kernel_rfl) (by kernel_rfl) (by kernel_rfl) (fun _ _ _ h => h) (Or.inl ⟨by rfl, ?_⟩) (by assumption) ?_
    rotate_left 1
    · (intro w hSw; (try dsimp only at hSw); go_simp <;> with_reducible rfl)
    try simp only [Act.put, List.setIfInBounds_toArray, List.set_cons_zero, List.set_cons_succ]
    refine wpAnyH_take (i := 3) (oi := ⟨some 47, _, _, _, _, _⟩) (v := ?_) rfl (by kernel_rfl) (by kernel_rfl) (by kernel_rfl) (fun _ _ _ h => h) (Or.inl ⟨by rfl, ?_⟩) (by assumption) ?_
    rotate_left 1
    · (intro w hSw; (try dsimp only at hSw); go_simp <;> with_reducible rfl)
    try simp only [Act.put, List.setIfInBounds_toArray, List.set_cons_zero, List.set_cons_succ]
    refine wpAnyH_take (i := 5) (oi := ⟨some 49, _, _, _, _, _⟩) (v := ?_) rfl (by kernel_rfl) (by kernel_rfl) (by kernel_rfl) (fun _ _ _ h => h) (Or.inl ⟨by rfl, ?_⟩) (by assumption) ?_
    rotate_left 1
    · (intro w hSw; (try dsimp only at hSw); go_simp <;> with_reducible rfl)
    try simp only [Act.put, List.setIfInBounds_toArray, List.set_cons_zero, List.set_cons_succ]
    refine wpAnyH_take (i := 6) (oi := ⟨some 50, _, _, _, _, _⟩) (v := ?_) rfl (by kernel_rfl) (by kernel_rfl) (by kernel_rfl) (fun _ _ _ h => h) (Or.inl ⟨by rfl, ?_⟩) (by assumption) ?_
    rotate_left 1
    · (intro w hSw; (try dsimp only at hSw); go_simp <;> with_reducible rfl)
    try simp only [Act.put, List.setIfInBounds_toArray, List.set_cons_zero, List.set_cons_succ]
    refine wpAnyH_ready (rs := [4]) (by kernel_rfl) (by simp) ?_
    refine AllReadyH.cons (o := ⟨some 48, _, _, _, _, _⟩) rfl (fun K hK => ?_) AllReadyH.nil
    rw [if_pos (by rfl)]
    go_simp
    (first | (with_reducible refine (CW.out _ (KY.out _ KX.out)).mono ?_) | (with_reducible refine (CW.out _ (KY.out _ KX.out.drew)).mono ?_))
    rintro e wn ⟨rfl, kn⟩
    (first | (with_reducible have KX := Lib.hid (KX.out.trans kn)) | (with_reducible have KX := Lib.hid (KX.out.drew.trans kn)))
    obtain ⟨⟨s0, s1, s2⟩, r0, r1, r2⟩ := SK.out _ KX.out
    go_simp
    refine hK.out _ _ ?_ (fun hHeld => ?_)
    · exact ⟨⟨s0, s1, s2⟩, r0, r1, r2⟩
    clear hK K
    try simp only [Act.put, List.setIfInBounds_toArray, List.set_cons_zero, List.set_cons_succ]
    refine wpAnyH_ready (rs := [7]) (by kernel_rfl) (by simp) ?_
    refine AllReadyH.cons (o := ⟨some 51, _, _, _, _, _⟩) rfl (fun K hK => ?_) AllReadyH.nil
    rw [if_pos (by rfl)]
    go_simp
    (first | (with_reducible refine (CR.out _ (KY.out _ KX.out)).mono ?_) | (with_reducible refine (CR.out _ (KY.out _ KX.out.drew)).mono ?_))
    rintro e wn ⟨rfl, kn⟩
    (first | (with_reducible have KX := Lib.hid (KX.out.trans kn)) | (with_reducible have KX := Lib.hid (KX.out.drew.trans kn)))
    obtain ⟨⟨s0, s1, s2⟩, r0, r1, r2⟩ := SK.out _ KX.out
    go_simp
    refine hK.out _ _ ?_ (fun hHeld => ?_)
    · exact ⟨⟨s0, s1, s2⟩, r0, r1, r2⟩
    clear hK K
    try simp only [Act.put, List.setIfInBounds_toArray, List.set_cons_zero, List.set_cons_succ]
    refine wpAnyH_take (i := 8) (oi := ⟨some 52, _, _, _, _, _⟩) (v := ?_) rfl (by kernel_rfl) (by kernel_rfl) (by kernel_rfl) (fun _ _ _ h => h) (Or.inl ⟨by rfl, ?_⟩) (by assumption) ?_
    rotate_left 1
    · (intro w hSw; (try dsimp only at hSw); go_simp <;> with_reducible rfl)
    try simp only [Act.put, List.setIfInBounds_toArray, List.set_cons_zero, List.set_cons_succ]
    refine wpAnyH_take (i := 9) (oi := ⟨some 53, _, _, _, _, _⟩) (v := ?_) rfl (by kernel_rfl) (by kernel_rfl) (by kernel_rfl) (fun _ _ _ h => h) (Or.inl ⟨by rfl, ?_⟩) (by assumption) ?_
    rotate_left 1
    · (intro w hSw; (try dsimp only at hSw); go_simp <;> with_reducible rfl)
    try simp only [Act.put, List.setIfInBounds_toArray, List.set_cons_zero, List.set_cons_succ]
    refine wpAnyH_take (i := 10) (oi := ⟨some 54, _, _, _, _, _⟩) (v := ?_) rfl (by kernel_rfl) (by kernel_rfl) (by kernel_rfl) (fun _ _ _ h => h) (Or.inl ⟨by rfl, ?_⟩) (by assumption) ?_
    rotate_left 1
    · (intro w hSw; (try dsimp only at hSw); go_simp <;> with_reducible rfl)
    try simp only [Act.put, List.setIfInBounds_toArray, List.set_cons_zero, List.set_cons_succ]
    refine wpAnyH_take (i := 11) (oi := ⟨some 55, _, _, _, _, _⟩) (v := ?_) rfl (by kernel_rfl) (by kernel_rfl) (by kernel_rfl) (fun _ _ _ h => h) (Or.inl ⟨by rfl, ?_⟩) (by assumption) ?_
    rotate_left 1
    · (intro w hSw; (try dsimp only at hSw); go_simp <;> with_reducible rfl)
    try simp only [Act.put, List.setIfInBounds_toArray, List.set_cons_zero, List.set_cons_succ]
    refine wpAnyH_take (i := 12) (oi := ⟨some 56, _, _, _, _, _⟩) (v := ?_) rfl (by kernel_rfl) (by kernel_rfl) (by kernel_rfl) (fun _ _ _ h => h) (Or.inl ⟨by rfl, ?_⟩) (by assumption) ?_
    rotate_left 1
    · (intro w hSw; (try dsimp only at hSw); go_simp <;> with_reducible rfl)
    try simp only [Act.put, List.setIfInBounds_toArray, List.set_cons_zero, List.set_cons_succ]
    refine wpAnyH_take (i := 13) (oi := ⟨some 57, _, _, _, _, _⟩) (v := ?_) rfl (by kernel_rfl) (by kernel_rfl) (by kernel_rfl) (fun _ _ _ h => h) (Or.inl ⟨by rfl, ?_⟩) (by assumption) ?_
    rotate_left 1
    · (intro w hSw; (try dsimp only at hSw); go_simp <;> with_reducible rfl)
    try simp only [Act.put, List.setIfInBounds_toArray, List.set_cons_zero, List.set_cons_succ]
    refine wpAnyH_take (i := 14) (oi := ⟨some 58, _, _, _, _, _⟩) (v := ?_) rfl (by kernel_rfl) (by kernel_rfl) (by kernel_rfl) (fun _ _ _ h => h) (Or.inl ⟨by rfl, ?_⟩) (by assumption) ?_
    rotate_left 1
    · (intro w hSw; (try dsimp only at hSw); go_simp <;> with_reducible rfl)
    try simp only [Act.put, List.setIfInBounds_toArray, List.set_cons_zero, List.set_cons_succ]
    refine wpAnyH_take (i := 15) (oi := ⟨some 59, _, _, _, _, _⟩) (v := ?_) rfl (by kernel_rfl) (by kernel_rfl) (by kernel_rfl) (fun _ _ _ h => h) (Or.inl ⟨by rfl, ?_⟩) (by assumption) ?_
    rotate_left 1
    · (intro w hSw; (try dsimp only at hSw); go_simp <;> with_reducible rfl)
    try simp only [Act.put, List.setIfInBounds_toArray, List.set_cons_zero, List.set_cons_succ]
    refine wpAnyH_take (i := 16) (oi := ⟨some 60, _, _, _, _, _⟩) (v := ?_) rfl (by kernel_rfl) (by kernel_rfl) (by kernel_rfl) (fun _ _ _ h => h) (Or.inl ⟨by rfl, ?_⟩) (by assumption) ?_
    rotate_left 1
    · (intro w hSw; (try dsimp only at hSw); go_simp <;> with_reducible rfl)
    try simp only [Act.put, List.setIfInBounds_toArray, List.set_cons_zero, List.set_cons_succ]
    refine wpAnyH_take (i := 17) (oi := ⟨some 61, _, _, _, _, _⟩) (v := ?_) rfl (by kernel_rfl) (by kernel_rfl) (by kernel_rfl) (fun _ _ _ h => h) (Or.inl ⟨by rfl, ?_⟩) (by assumption) ?_
    rotate_left 1
    · (intro w hSw; (try dsimp only at hSw); go_simp <;> with_reducible rfl)
    try simp only [Act.put, List.setIfInBounds_toArray, List.set_cons_zero, List.set_cons_succ]
    refine wpAnyH_take (i := 18) (oi := ⟨some 62, _, _, _, _, _⟩) (v := ?_) rfl (by kernel_rfl) (by kernel_rfl) (by kernel_rfl) (fun _ _ _ h => h) (Or.inl ⟨by rfl, ?_⟩) (by assumption) ?_
    rotate_left 1
    · (intro w hSw; (try dsimp only at hSw); go_simp <;> with_reducible rfl)
    try simp only [Act.put, List.setIfInBounds_toArray, List.set_cons_zero, List.set_cons_succ]
    refine wpAnyH_take (i := 19) (oi := ⟨some 63, _, _, _, _, _⟩) (v := ?_) rfl (by kernel_rfl) (by kernel_rfl) (by kernel_rfl) (fun _ _ _ h => h) (Or.inl ⟨by rfl, ?_⟩) (by assumption) ?_
    rotate_left 1
    · (intro w hSw; (try dsimp only at hSw); go_simp <;> with_reducible rfl)
    try simp only [Act.put, List.setIfInBounds_toArray, List.set_cons_zero, List.set_cons_succ]
    refine wpAnyH_take (i := 20) (oi := ⟨some 6, _, _, _, _, _⟩) (v := ?_) rfl (by kernel_rfl) (by kernel_rfl) (by kernel_rfl) (fun _ _ _ h => h) (Or.inl ⟨by rfl, ?_⟩) (by assumption) ?_
    rotate_left 1
    · (intro w hSw; (try dsimp only at hSw); go_simp <;> with_reducible rfl)
    try simp only [Act.put, List.setIfInBounds_toArray, List.set_cons_zero, List.set_cons_succ]
    refine wpAnyH_done (by kernel_rfl) ?_ _
    clear hHeld
    go_wp2_with fail
    go_ret
    exact ⟨rfl, K4.out.trans KX.out⟩

end Go.Proofs.Ytkgaddlclfjkmaa
