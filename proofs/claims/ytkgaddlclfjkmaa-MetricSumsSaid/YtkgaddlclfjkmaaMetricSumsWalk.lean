/-
  A text's width is its parts'.
-/
import Derived.Test.YtkgaddlclfjkmaaMetAwake
import Derived.Test.YtkgaddlclfjkmaaMetRefSane
namespace Go.Proofs.Ytkgaddlclfjkmaa
open Go.RowKit
set_option linter.unusedSimpArgs false
set_option linter.unusedVariables false

theorem Width_as (t : Mt.Fo) (f o : Int) (p : Option Addr) (L c : Nat) (hf : (t.first : Int) = f) (ho : (t.other : Int) = o) (hL : t.ws.length = L) (hs : t.Sane) (s : ByteArray) (v : Nat) (hv : t.width s.data.toList = v) (hl : s.size ≤ 4294967296) (w : World) (h : NuR w w.heap.size p t.ws) :
    Calls Try.prog 13 #[.agg #[.int .i64 f, .slice p L c, .int .i64 o], .string s] w fun e w' => e = .returned (.int .i64 v) ∧ Kept w w' := by
  subst hf ho hL hv
  exact Width_any t p c s w h hs hl

set_option maxRecDepth 100000 in
set_option maxHeartbeats 16000000 in
theorem MetricSums_walk (v : Value) (f : Int) (X : List Int) (o : Int) (a b : ByteArray) (w : World) (hv : FontArg w v f X o) (ha9 : a.size ≤ 140737488355328) (hb9 : b.size ≤ 140737488355328) :
    Calls Try.prog 6 #[v, .string a, .string b] w fun e w' => e = .returned (.bool true) ∧ Kept w w' := by
  obtain ⟨p, c, rfl, hX, hlc, hcm, hfb, hob⟩ := hv
  obtain ⟨L, hL⟩ : ∃ L, L = X.length := ⟨_, rfl⟩
  have RS := Lib.hid (fun wx (k : Kept w wx) => RSane_any f X o p c wx (hX.keep k) hlc hcm)
  rw [← hL] at RS ⊢
  have AW := Lib.hid (fun wx => awake13_any wx)
  have HX := Lib.hid hX
  have HLL := Lib.hid hL
  have ha : a.size ≤ 9223372036854775807 := by omega
  have hb : b.size ≤ 9223372036854775807 := by omega
  clear hX hL hlc hcm
  cases hs : Mt.saneB f X o
  · rw [hs] at RS
    clear hs hfb hob ha9 hb9
    go_enter Try.func6, Try.ntmps6
    go_wp2_with fail
    (with_reducible refine (AW.out _).mono ?_)
    rintro e w1 ⟨rfl, hk1⟩
    have K1 := Lib.hid (show Kept w w1 from ((Kept.refl w).alloc _ _).trans hk1)
    have B1 := Lib.hid (show Blk w1 w.heap.size #[.int .i64 f, .slice p L c, .int .i64 o] 24 from (Blk.fresh w _ _).kept hk1)
    clear hk1
    have e0 := B1.out.cell 0
    have e1 := B1.out.cell 1
    have e2 := B1.out.cell 2
    go_wp2_with fail
    (with_reducible refine (RS.out _ K1.out).mono ?_)
    rintro e w2 ⟨rfl, hk2⟩
    have K2 := Lib.hid (K1.out.trans hk2)
    clear hk2 e0 e1 e2
    go_wp2_with fail
    go_ret
    exact ⟨rfl, K2.out⟩
  rw [hs] at RS
  obtain ⟨t1, t2, t3, t4, t5⟩ := Mt.sane_of hs
  have NU := Lib.hid (fun wx (k : Kept w wx) => (NuR.of_ints HX.out hs).keep (Nat.le_refl _) k |>.up (Below.size k))
  obtain ⟨t, ht⟩ : ∃ t, t = Mt.ofInts f X o := ⟨_, rfl⟩
  rw [← ht] at t1 t2 t3 t4 NU
  clear t5 ht hs
  by_cases hbig : (1000 : Int) < (a.size : Int) + (b.size : Int)
  · have hw1 : IntKind.i64.wrap ((a.size : Int) + (b.size : Int)) = (a.size : Int) + (b.size : Int) := by rw [IntKind.wrap_i64]; omega
    clear t1 t2 t3 t4 hfb hob
    go_enter Try.func6, Try.ntmps6
    go_wp2_with fail
    (with_reducible refine (AW.out _).mono ?_)
    rintro e w1 ⟨rfl, hk1⟩
    have K1 := Lib.hid (show Kept w w1 from ((Kept.refl w).alloc _ _).trans hk1)
    have B1 := Lib.hid (show Blk w1 w.heap.size #[.int .i64 f, .slice p L c, .int .i64 o] 24 from (Blk.fresh w _ _).kept hk1)
    clear hk1
    have e0 := B1.out.cell 0
    have e1 := B1.out.cell 1
    have e2 := B1.out.cell 2
    go_wp2_with fail
    (with_reducible refine (RS.out _ K1.out).mono ?_)
    rintro e w2 ⟨rfl, hk2⟩
    have K2 := Lib.hid (K1.out.trans hk2)
    clear hk2 e0 e1 e2
    go_wp2_with fail
    go_ret
    exact ⟨rfl, K2.out⟩
  · have hsum : a.size + b.size ≤ 1000 := by omega
    have ha0 : a.size ≤ 1000 := by omega
    have hb0 : b.size ≤ 1000 := by omega
    have hw1 : IntKind.i64.wrap ((a.size : Int) + (b.size : Int)) = (a.size : Int) + (b.size : Int) := by rw [IntKind.wrap_i64]; omega
    obtain ⟨va, hva⟩ : ∃ n, n = t.width a.data.toList := ⟨_, rfl⟩
    obtain ⟨vb, hvb⟩ : ∃ n, n = t.width b.data.toList := ⟨_, rfl⟩
    obtain ⟨vn, hvn⟩ : ∃ n, n = va + vb := ⟨_, rfl⟩
    have la : va ≤ 5000000 := by rw [hva]; have := Mt.Fo.width_le t1 a.data.toList; rw [← Lib.size_eq] at this; omega
    have lb : vb ≤ 5000000 := by rw [hvb]; have := Mt.Fo.width_le t1 b.data.toList; rw [← Lib.size_eq] at this; omega
    have hAB : t.width (a ++ b).data.toList = vn := by rw [show (a ++ b).data.toList = a.data.toList ++ b.data.toList by simp, Mt.Fo.width_append, ← hva, ← hvb, hvn]
    have hBA : t.width (b ++ a).data.toList = vn := by rw [show (b ++ a).data.toList = b.data.toList ++ a.data.toList by simp, Mt.Fo.width_append, ← hva, ← hvb, hvn, Nat.add_comm]
    have sAB : (a ++ b).size ≤ 1000 := by rw [ByteArray.size_append]; exact hsum
    have sBA : (b ++ a).size ≤ 1000 := by rw [ByteArray.size_append]; omega
    have CX := Lib.hid (fun (s : ByteArray) (n : Nat) (hn : t.width s.data.toList = n) (hl : s.size ≤ 4294967296) wx (k : Kept w wx) => Width_as t f o p L c t2 t3 (t4.trans HLL.out.symm) t1 s n hn hl wx (NU.out wx k))
    have CA := Lib.hid (CX.out a va hva.symm (by omega))
    have CB := Lib.hid (CX.out b vb hvb.symm (by omega))
    have CAB := Lib.hid (CX.out (a ++ b) vn hAB (by omega))
    have CBA := Lib.hid (CX.out (b ++ a) vn hBA (by omega))
    have C0 := Lib.hid (fun wx (k : Kept w wx) => (show Calls Try.prog 13 #[.agg #[.int .i64 f, .slice p L c, .int .i64 o], .string ⟨#[]⟩] wx fun e w' => e = .returned (.int .i64 0) ∧ Kept wx w' from CX.out ⟨#[]⟩ 0 rfl (by decide) wx k))
    have i1 : ((vn : Int) == (va : Int) + (vb : Int)) = true := by rw [beq_iff_eq]; omega
    have i2 : ((vn : Int) == (vn : Int)) = true := by simp
    have i3 : (va : Int) ≤ (vn : Int) := by omega
    have i3' : va ≤ vn := by omega
    have hw2 : IntKind.i64.wrap ((va : Int) + (vb : Int)) = (va : Int) + (vb : Int) := by rw [IntKind.wrap_i64]; omega
    have lsz1 : a.size + b.size ≤ 9223372036854775807 := by omega
    have lsz2 : ¬ 9223372036854775807 < b.size + a.size := by omega
    clear hva hvb hvn hAB hBA sAB sBA CX NU t1 t2 t3 t4
    go_enter Try.func6, Try.ntmps6
    go_wp2_with fail
    (with_reducible refine (AW.out _).mono ?_)
    rintro e w1 ⟨rfl, hk1⟩
    have K1 := Lib.hid (show Kept w w1 from ((Kept.refl w).alloc _ _).trans hk1)
    have B1 := Lib.hid (show Blk w1 w.heap.size #[.int .i64 f, .slice p L c, .int .i64 o] 24 from (Blk.fresh w _ _).kept hk1)
    clear hk1
    have e0 := B1.out.cell 0
    have e1 := B1.out.cell 1
    have e2 := B1.out.cell 2
    go_wp2_with fail
    (with_reducible refine (RS.out _ K1.out).mono ?_)
    rintro e w2 ⟨rfl, hk2⟩
    have K2 := Lib.hid (K1.out.trans hk2)
    have B2 := Lib.hid (B1.out.kept hk2)
    clear hk2 e0 e1 e2
    have e0 := B2.out.cell 0
    have e1 := B2.out.cell 1
    have e2 := B2.out.cell 2
    go_wp2_with fail
    (with_reducible refine (CAB.out _ (K2.out.alloc _ _)).mono ?_)
    rintro e w3 ⟨rfl, hk3⟩
    have K3 := Lib.hid (show Kept w w3 from (K2.out.alloc _ _).trans hk3)
    have B3 := Lib.hid (show Blk w3 w2.heap.size #[.int .i64 f, .slice p L c, .int .i64 o] 28 from (Blk.fresh w2 _ _).kept hk3)
    clear hk3 e0 e1 e2
    go_upto_region 6 with fail
    obtain ⟨B, hB⟩ : ∃ B, B = w2.heap.size := ⟨_, rfl⟩
    rw [← hB] at B3 ⊢
    clear hB
    have SK := Lib.hid (show ∀ w', Kept w3 w' → (w'.cell? ⟨B, 0, none⟩ = some (.int .i64 f) ∧ w'.cell? ⟨B, 1, none⟩ = some (.slice p L c) ∧ w'.cell? ⟨B, 2, none⟩ = some (.int .i64 o)) from fun w' k => by
      have bb := B3.out.kept k
      exact ⟨bb.cell 0, bb.cell 1, bb.cell 2⟩)
    have KX := Lib.hid (Kept.refl w3)
    have KY := Lib.hid (fun wx (k : Kept w3 wx) => (K3.out.trans k : Kept w wx))
    obtain ⟨s0, s1, s2⟩ := SK.out _ KX.out
    refine wp_region_held_drew (S := fun w' => (w'.cell? ⟨B, 0, none⟩ = some (.int .i64 f) ∧ w'.cell? ⟨B, 1, none⟩ = some (.slice p L c) ∧ w'.cell? ⟨B, 2, none⟩ = some (.int .i64 o))) (by kernel_rfl) ?_ (fun hHeld => ?_)
    · exact ⟨s0, s1, s2⟩
    refine wpAnyH_take (i := 0) (oi := ⟨some 35, _, _, _, _, _⟩) (v := ?_) rfl (by kernel_rfl) (by kernel_rfl) (by kernel_rfl) (fun _ _ _ h => h) (Or.inl ⟨by rfl, ?_⟩) (by assumption) ?_
    rotate_left 1
    · (intro w hSw; (try dsimp only at hSw); go_simp <;> with_reducible rfl)
    try simp only [Act.put, List.setIfInBounds_toArray, List.set_cons_zero, List.set_cons_succ]
    refine wpAnyH_take (i := 1) (oi := ⟨some 36, _, _, _, _, _⟩) (v := ?_) rfl (by kernel_rfl) (by kernel_rfl) (by kernel_rfl) (fun _ _ _ h => h) (Or.inl ⟨by rfl, ?_⟩) (by assumption) ?_
    rotate_left 1
    · (intro w hSw; (try dsimp only at hSw); go_simp <;> with_reducible rfl)
    try simp only [Act.put, List.setIfInBounds_toArray, List.set_cons_zero, List.set_cons_succ]
    refine wpAnyH_take (i := 2) (oi := ⟨some 37, _, _, _, _, _⟩) (v := ?_) rfl (by kernel_rfl) (by kernel_rfl) (by kernel_rfl) (fun _ _ _ h => h) (Or.inl ⟨by rfl, ?_⟩) (by assumption) ?_
    rotate_left 1
    · (intro w hSw; (try dsimp only at hSw); go_simp <;> with_reducible rfl)
    try simp only [Act.put, List.setIfInBounds_toArray, List.set_cons_zero, List.set_cons_succ]
    refine wpAnyH_take (i := 3) (oi := ⟨some 38, _, _, _, _, _⟩) (v := ?_) rfl (by kernel_rfl) (by kernel_rfl) (by kernel_rfl) (fun _ _ _ h => h) (Or.inl ⟨by rfl, ?_⟩) (by assumption) ?_
    rotate_left 1
    · (intro w hSw; (try dsimp only at hSw); go_simp <;> with_reducible rfl)
    try simp only [Act.put, List.setIfInBounds_toArray, List.set_cons_zero, List.set_cons_succ]
    refine wpAnyH_take (i := 4) (oi := ⟨some 39, _, _, _, _, _⟩) (v := ?_) rfl (by kernel_rfl) (by kernel_rfl) (by kernel_rfl) (fun _ _ _ h => h) (Or.inl ⟨by rfl, ?_⟩) (by assumption) ?_
    rotate_left 1
    · (intro w hSw; (try dsimp only at hSw); go_simp <;> with_reducible rfl)
    try simp only [Act.put, List.setIfInBounds_toArray, List.set_cons_zero, List.set_cons_succ]
    refine wpAnyH_take (i := 6) (oi := ⟨some 41, _, _, _, _, _⟩) (v := ?_) rfl (by kernel_rfl) (by kernel_rfl) (by kernel_rfl) (fun _ _ _ h => h) (Or.inl ⟨by rfl, ?_⟩) (by assumption) ?_
    rotate_left 1
    · (intro w hSw; (try dsimp only at hSw); go_simp <;> with_reducible rfl)
    try simp only [Act.put, List.setIfInBounds_toArray, List.set_cons_zero, List.set_cons_succ]
    refine wpAnyH_take (i := 7) (oi := ⟨some 42, _, _, _, _, _⟩) (v := ?_) rfl (by kernel_rfl) (by kernel_rfl) (by kernel_rfl) (fun _ _ _ h => h) (Or.inl ⟨by rfl, ?_⟩) (by assumption) ?_
    rotate_left 1
    · (intro w hSw; (try dsimp only at hSw); go_simp <;> with_reducible rfl)
    try simp only [Act.put, List.setIfInBounds_toArray, List.set_cons_zero, List.set_cons_succ]
    refine wpAnyH_ready (rs := [5]) (by kernel_rfl) (by simp) ?_
    refine AllReadyH.cons (o := ⟨some 40, _, _, _, _, _⟩) rfl (fun K hK => ?_) AllReadyH.nil
    rw [if_pos (by rfl)]
    go_simp
    (first | (with_reducible refine (CA.out _ (KY.out _ KX.out)).mono ?_) | (with_reducible refine (CA.out _ (KY.out _ KX.out.drew)).mono ?_))
    rintro e wn ⟨rfl, kn⟩
    (first | (with_reducible have KX := Lib.hid (KX.out.trans kn)) | (with_reducible have KX := Lib.hid (KX.out.drew.trans kn)))
    obtain ⟨s0, s1, s2⟩ := SK.out _ KX.out
    go_simp
    refine hK.out _ _ ?_ (fun hHeld => ?_)
    · exact ⟨s0, s1, s2⟩
    clear hK K
    try simp only [Act.put, List.setIfInBounds_toArray, List.set_cons_zero, List.set_cons_succ]
    refine wpAnyH_ready (rs := [8]) (by kernel_rfl) (by simp) ?_
    refine AllReadyH.cons (o := ⟨some 43, _, _, _, _, _⟩) rfl (fun K hK => ?_) AllReadyH.nil
    rw [if_pos (by rfl)]
    go_simp
    (first | (with_reducible refine (CB.out _ (KY.out _ KX.out)).mono ?_) | (with_reducible refine (CB.out _ (KY.out _ KX.out.drew)).mono ?_))
    rintro e wn ⟨rfl, kn⟩
    (first | (with_reducible have KX := Lib.hid (KX.out.trans kn)) | (with_reducible have KX := Lib.hid (KX.out.drew.trans kn)))
    obtain ⟨s0, s1, s2⟩ := SK.out _ KX.out
    go_simp
    refine hK.out _ _ ?_ (fun hHeld => ?_)
    · exact ⟨s0, s1, s2⟩
    clear hK K
    try simp only [Act.put, List.setIfInBounds_toArray, List.set_cons_zero, List.set_cons_succ]
    refine wpAnyH_take (i := 9) (oi := ⟨some 44, _, _, _, _, _⟩) (v := ?_) rfl (by kernel_rfl) (by kernel_rfl) (by kernel_rfl) (fun _ _ _ h => h) (Or.inl ⟨by rfl, ?_⟩) (by assumption) ?_
    rotate_left 1
    · (intro w hSw; (try dsimp only at hSw); go_simp <;> with_reducible rfl)
    try simp only [Act.put, List.setIfInBounds_toArray, List.set_cons_zero, List.set_cons_succ]
    refine wpAnyH_take (i := 10) (oi := ⟨some 45, _, _, _, _, _⟩) (v := ?_) rfl (by kernel_rfl) (by kernel_rfl) (by kernel_rfl) (fun _ _ _ h => h) (Or.inl ⟨by rfl, ?_⟩) (by assumption) ?_
    rotate_left 1
    · (intro w hSw; (try dsimp only at hSw); go_simp <;> with_reducible rfl)
    try simp only [Act.put, List.setIfInBounds_toArray, List.set_cons_zero, List.set_cons_succ]
    refine wpAnyH_take (i := 11) (oi := ⟨some 46, _, _, _, _, _⟩) (v := ?_) rfl (by kernel_rfl) (by kernel_rfl) (by kernel_rfl) (fun _ _ _ h => h) (Or.inl ⟨by rfl, ?_⟩) (by assumption) ?_
    rotate_left 1
    · (intro w hSw; (try dsimp only at hSw); go_simp <;> with_reducible rfl)
    try simp only [Act.put, List.setIfInBounds_toArray, List.set_cons_zero, List.set_cons_succ]
    refine wpAnyH_take (i := 12) (oi := ⟨some 47, _, _, _, _, _⟩) (v := ?_) rfl (by kernel_rfl) (by kernel_rfl) (by kernel_rfl) (fun _ _ _ h => h) (Or.inl ⟨by rfl, ?_⟩) (by assumption) ?_
    rotate_left 1
    · (intro w hSw; (try dsimp only at hSw); go_simp <;> with_reducible rfl)
    try simp only [Act.put, List.setIfInBounds_toArray, List.set_cons_zero, List.set_cons_succ]
    refine wpAnyH_take (i := 13) (oi := ⟨some 48, _, _, _, _, _⟩) (v := ?_) rfl (by kernel_rfl) (by kernel_rfl) (by kernel_rfl) (fun _ _ _ h => h) (Or.inl ⟨by rfl, ?_⟩) (by assumption) ?_
    rotate_left 1
    · (intro w hSw; (try dsimp only at hSw); go_simp <;> with_reducible rfl)
    try simp only [Act.put, List.setIfInBounds_toArray, List.set_cons_zero, List.set_cons_succ]
    refine wpAnyH_take (i := 14) (oi := ⟨some 49, _, _, _, _, _⟩) (v := ?_) rfl (by kernel_rfl) (by kernel_rfl) (by kernel_rfl) (fun _ _ _ h => h) (Or.inl ⟨by rfl, ?_⟩) (by assumption) ?_
    rotate_left 1
    · (intro w hSw; (try dsimp only at hSw); go_simp <;> with_reducible rfl)
    try simp only [Act.put, List.setIfInBounds_toArray, List.set_cons_zero, List.set_cons_succ]
    refine wpAnyH_take (i := 15) (oi := ⟨some 50, _, _, _, _, _⟩) (v := ?_) rfl (by kernel_rfl) (by kernel_rfl) (by kernel_rfl) (fun _ _ _ h => h) (Or.inl ⟨by rfl, ?_⟩) (by assumption) ?_
    rotate_left 1
    · (intro w hSw; (try dsimp only at hSw); go_simp <;> with_reducible rfl)
    try simp only [Act.put, List.setIfInBounds_toArray, List.set_cons_zero, List.set_cons_succ]
    refine wpAnyH_take (i := 16) (oi := ⟨some 51, _, _, _, _, _⟩) (v := ?_) rfl (by kernel_rfl) (by kernel_rfl) (by kernel_rfl) (fun _ _ _ h => h) (Or.inl ⟨by rfl, ?_⟩) (by assumption) ?_
    rotate_left 1
    · (intro w hSw; (try dsimp only at hSw); go_simp <;> with_reducible rfl)
    try simp only [Act.put, List.setIfInBounds_toArray, List.set_cons_zero, List.set_cons_succ]
    refine wpAnyH_take (i := 17) (oi := ⟨some 52, _, _, _, _, _⟩) (v := ?_) rfl (by kernel_rfl) (by kernel_rfl) (by kernel_rfl) (fun _ _ _ h => h) (Or.inl ⟨by rfl, ?_⟩) (by assumption) ?_
    rotate_left 1
    · (intro w hSw; (try dsimp only at hSw); go_simp <;> with_reducible rfl)
    try simp only [Act.put, List.setIfInBounds_toArray, List.set_cons_zero, List.set_cons_succ]
    refine wpAnyH_ready (rs := [18]) (by kernel_rfl) (by simp) ?_
    refine AllReadyH.cons (o := ⟨some 53, _, _, _, _, _⟩) rfl (fun K hK => ?_) AllReadyH.nil
    rw [if_pos (by rfl)]
    go_simp
    (first | (with_reducible refine (CBA.out _ (KY.out _ KX.out)).mono ?_) | (with_reducible refine (CBA.out _ (KY.out _ KX.out.drew)).mono ?_))
    rintro e wn ⟨rfl, kn⟩
    (first | (with_reducible have KX := Lib.hid (KX.out.trans kn)) | (with_reducible have KX := Lib.hid (KX.out.drew.trans kn)))
    obtain ⟨s0, s1, s2⟩ := SK.out _ KX.out
    go_simp
    refine hK.out _ _ ?_ (fun hHeld => ?_)
    · exact ⟨s0, s1, s2⟩
    clear hK K
    try simp only [Act.put, List.setIfInBounds_toArray, List.set_cons_zero, List.set_cons_succ]
    refine wpAnyH_take (i := 19) (oi := ⟨some 54, _, _, _, _, _⟩) (v := ?_) rfl (by kernel_rfl) (by kernel_rfl) (by kernel_rfl) (fun _ _ _ h => h) (Or.inl ⟨by rfl, ?_⟩) (by assumption) ?_
    rotate_left 1
    · (intro w hSw; (try dsimp only at hSw); go_simp <;> with_reducible rfl)
    try simp only [Act.put, List.setIfInBounds_toArray, List.set_cons_zero, List.set_cons_succ]
    refine wpAnyH_take (i := 20) (oi := ⟨some 55, _, _, _, _, _⟩) (v := ?_) rfl (by kernel_rfl) (by kernel_rfl) (by kernel_rfl) (fun _ _ _ h => h) (Or.inl ⟨by rfl, ?_⟩) (by assumption) ?_
    rotate_left 1
    · (intro w hSw; (try dsimp only at hSw); go_simp <;> with_reducible rfl)
    try simp only [Act.put, List.setIfInBounds_toArray, List.set_cons_zero, List.set_cons_succ]
    refine wpAnyH_take (i := 21) (oi := ⟨some 56, _, _, _, _, _⟩) (v := ?_) rfl (by kernel_rfl) (by kernel_rfl) (by kernel_rfl) (fun _ _ _ h => h) (Or.inl ⟨by rfl, ?_⟩) (by assumption) ?_
    rotate_left 1
    · (intro w hSw; (try dsimp only at hSw); go_simp <;> with_reducible rfl)
    try simp only [Act.put, List.setIfInBounds_toArray, List.set_cons_zero, List.set_cons_succ]
    refine wpAnyH_take (i := 22) (oi := ⟨some 57, _, _, _, _, _⟩) (v := ?_) rfl (by kernel_rfl) (by kernel_rfl) (by kernel_rfl) (fun _ _ _ h => h) (Or.inl ⟨by rfl, ?_⟩) (by assumption) ?_
    rotate_left 1
    · (intro w hSw; (try dsimp only at hSw); go_simp <;> with_reducible rfl)
    try simp only [Act.put, List.setIfInBounds_toArray, List.set_cons_zero, List.set_cons_succ]
    refine wpAnyH_take (i := 23) (oi := ⟨some 58, _, _, _, _, _⟩) (v := ?_) rfl (by kernel_rfl) (by kernel_rfl) (by kernel_rfl) (fun _ _ _ h => h) (Or.inl ⟨by rfl, ?_⟩) (by assumption) ?_
    rotate_left 1
    · (intro w hSw; (try dsimp only at hSw); go_simp <;> with_reducible rfl)
    try simp only [Act.put, List.setIfInBounds_toArray, List.set_cons_zero, List.set_cons_succ]
    refine wpAnyH_take (i := 24) (oi := ⟨some 59, _, _, _, _, _⟩) (v := ?_) rfl (by kernel_rfl) (by kernel_rfl) (by kernel_rfl) (fun _ _ _ h => h) (Or.inl ⟨by rfl, ?_⟩) (by assumption) ?_
    rotate_left 1
    · (intro w hSw; (try dsimp only at hSw); go_simp <;> with_reducible rfl)
    try simp only [Act.put, List.setIfInBounds_toArray, List.set_cons_zero, List.set_cons_succ]
    refine wpAnyH_ready (rs := [25]) (by kernel_rfl) (by simp) ?_
    refine AllReadyH.cons (o := ⟨some 60, _, _, _, _, _⟩) rfl (fun K hK => ?_) AllReadyH.nil
    rw [if_pos (by rfl)]
    go_simp
    (first | (with_reducible refine (CA.out _ (KY.out _ KX.out)).mono ?_) | (with_reducible refine (CA.out _ (KY.out _ KX.out.drew)).mono ?_))
    rintro e wn ⟨rfl, kn⟩
    (first | (with_reducible have KX := Lib.hid (KX.out.trans kn)) | (with_reducible have KX := Lib.hid (KX.out.drew.trans kn)))
    obtain ⟨s0, s1, s2⟩ := SK.out _ KX.out
    go_simp
    refine hK.out _ _ ?_ (fun hHeld => ?_)
    · exact ⟨s0, s1, s2⟩
    clear hK K
    try simp only [Act.put, List.setIfInBounds_toArray, List.set_cons_zero, List.set_cons_succ]
    refine wpAnyH_take (i := 26) (oi := ⟨some 61, _, _, _, _, _⟩) (v := ?_) rfl (by kernel_rfl) (by kernel_rfl) (by kernel_rfl) (fun _ _ _ h => h) (Or.inl ⟨by rfl, ?_⟩) (by assumption) ?_
    rotate_left 1
    · (intro w hSw; (try dsimp only at hSw); go_simp <;> with_reducible rfl)
    try simp only [Act.put, List.setIfInBounds_toArray, List.set_cons_zero, List.set_cons_succ]
    refine wpAnyH_take (i := 27) (oi := ⟨some 62, _, _, _, _, _⟩) (v := ?_) rfl (by kernel_rfl) (by kernel_rfl) (by kernel_rfl) (fun _ _ _ h => h) (Or.inl ⟨by rfl, ?_⟩) (by assumption) ?_
    rotate_left 1
    · (intro w hSw; (try dsimp only at hSw); go_simp <;> with_reducible rfl)
    try simp only [Act.put, List.setIfInBounds_toArray, List.set_cons_zero, List.set_cons_succ]
    refine wpAnyH_take (i := 28) (oi := ⟨some 63, _, _, _, _, _⟩) (v := ?_) rfl (by kernel_rfl) (by kernel_rfl) (by kernel_rfl) (fun _ _ _ h => h) (Or.inl ⟨by rfl, ?_⟩) (by assumption) ?_
    rotate_left 1
    · (intro w hSw; (try dsimp only at hSw); go_simp <;> with_reducible rfl)
    try simp only [Act.put, List.setIfInBounds_toArray, List.set_cons_zero, List.set_cons_succ]
    refine wpAnyH_take (i := 29) (oi := ⟨some 64, _, _, _, _, _⟩) (v := ?_) rfl (by kernel_rfl) (by kernel_rfl) (by kernel_rfl) (fun _ _ _ h => h) (Or.inl ⟨by rfl, ?_⟩) (by assumption) ?_
    rotate_left 1
    · (intro w hSw; (try dsimp only at hSw); go_simp <;> with_reducible rfl)
    try simp only [Act.put, List.setIfInBounds_toArray, List.set_cons_zero, List.set_cons_succ]
    refine wpAnyH_ready (rs := [30]) (by kernel_rfl) (by simp) ?_
    refine AllReadyH.cons (o := ⟨some 65, _, _, _, _, _⟩) rfl (fun K hK => ?_) AllReadyH.nil
    rw [if_pos (by rfl)]
    go_simp
    (first | (with_reducible refine (C0.out _ (KY.out _ KX.out)).mono ?_) | (with_reducible refine (C0.out _ (KY.out _ KX.out.drew)).mono ?_))
    rintro e wn ⟨rfl, kn⟩
    (first | (with_reducible have KX := Lib.hid (KX.out.trans kn)) | (with_reducible have KX := Lib.hid (KX.out.drew.trans kn)))
    obtain ⟨s0, s1, s2⟩ := SK.out _ KX.out
    go_simp
    refine hK.out _ _ ?_ (fun hHeld => ?_)
    · exact ⟨s0, s1, s2⟩
    clear hK K
    try simp only [Act.put, List.setIfInBounds_toArray, List.set_cons_zero, List.set_cons_succ]
    refine wpAnyH_take (i := 31) (oi := ⟨some 66, _, _, _, _, _⟩) (v := ?_) rfl (by kernel_rfl) (by kernel_rfl) (by kernel_rfl) (fun _ _ _ h => h) (Or.inl ⟨by rfl, ?_⟩) (by assumption) ?_
    rotate_left 1
    · (intro w hSw; (try dsimp only at hSw); go_simp <;> with_reducible rfl)
    try simp only [Act.put, List.setIfInBounds_toArray, List.set_cons_zero, List.set_cons_succ]
    refine wpAnyH_take (i := 32) (oi := ⟨some 67, _, _, _, _, _⟩) (v := ?_) rfl (by kernel_rfl) (by kernel_rfl) (by kernel_rfl) (fun _ _ _ h => h) (Or.inl ⟨by rfl, ?_⟩) (by assumption) ?_
    rotate_left 1
    · (intro w hSw; (try dsimp only at hSw); go_simp <;> with_reducible rfl)
    try simp only [Act.put, List.setIfInBounds_toArray, List.set_cons_zero, List.set_cons_succ]
    refine wpAnyH_take (i := 33) (oi := ⟨some 6, _, _, _, _, _⟩) (v := ?_) rfl (by kernel_rfl) (by kernel_rfl) (by kernel_rfl) (fun _ _ _ h => h) (Or.inl ⟨by rfl, ?_⟩) (by assumption) ?_
    rotate_left 1
    · (intro w hSw; (try dsimp only at hSw); go_simp <;> with_reducible rfl)
    try simp only [Act.put, List.setIfInBounds_toArray, List.set_cons_zero, List.set_cons_succ]
    refine wpAnyH_done (by kernel_rfl) ?_ _
    clear hHeld
    go_wp2_with fail
    go_ret
    exact ⟨rfl, K3.out.trans KX.out⟩

end Go.Proofs.Ytkgaddlclfjkmaa
