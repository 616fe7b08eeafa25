/-
  In each standard font figures are as wide as one another, each byte has a width, and some letters are no wider than others.
-/
import Derived.Test.YtkgaddlclfjkmaaMetAwake
namespace Go.Proofs.Ytkgaddlclfjkmaa
open Go.RowKit
set_option linter.unusedSimpArgs false
set_option linter.unusedVariables false

theorem and_65535 (n : Int) : bits .and .i64 n 65535 = n % 65536 := by
  have hc : (BitVec.ofInt 64 65535).toNat = 2 ^ 16 - 1 := by decide
  have hk : (BitVec.ofInt 64 n &&& BitVec.ofInt 64 65535).toNat = (n % ((2 ^ 64 : Nat) : Int)).toNat % 2 ^ 16 := by
    rw [BitVec.toNat_and, BitVec.toNat_ofInt, hc, Nat.and_two_pow_sub_one_eq_mod]
  show IntKind.i64.wrap ((BitVec.ofInt 64 n &&& BitVec.ofInt 64 65535).toNat : Nat) = n % 65536
  rw [hk, IntKind.wrap_i64]
  omega

theorem Mt.slice_one (S : ByteArray) (j : Nat) (h : j + 1 ≤ S.size) (W : World) : (Instr.slice 9 (.string S) (some (.int .i64 (j : Int))) (some (.int .i64 ((j : Int) + 1))) none).run Try.prog W = .ok (.string (S.extract j (j + 1))) W := by
  have q1 : (j : Int) + 1 ≤ (S.size : Int) := by omega
  have q0 : (0 : Int) ≤ (j : Int) := by omega
  have q2 : (j : Int) ≤ (j : Int) + 1 := by omega
  go_simp

/-- What the law asks of a font. -/
def Mt.good (t : Mt.Fo) : Bool := (List.range 10).all (fun j => t.one (48 + j) == t.one 48) && (List.range 256).all (fun b => decide (0 < t.one b)) && decide (t.one 119 ≤ t.one 87) && decide (t.one 105 ≤ t.one 109)
theorem Mt.good_all : Mt.good Mt.helv = true ∧ Mt.good Mt.tims = true ∧ Mt.good Mt.cour = true := by
  refine ⟨?_, ?_, ?_⟩ <;> kernel_rfl
theorem Mt.good_facts {t : Mt.Fo} (h : Mt.good t = true) : (∀ j, j < 10 → t.one (48 + j) = t.one 48) ∧ (∀ b, b < 256 → 0 < t.one b) ∧ t.one 119 ≤ t.one 87 ∧ t.one 105 ≤ t.one 109 := by
  unfold Mt.good at h
  simp only [Bool.and_eq_true, decide_eq_true_eq] at h
  exact ⟨fun j hj => by simpa using List.all_eq_true.1 h.1.1.1 j (List.mem_range.2 hj), fun b hb => by simpa using List.all_eq_true.1 h.1.1.2 b (List.mem_range.2 hb), h.1.2, h.2⟩
theorem Mt.digit_at (j : Nat) (h : j < 10) : ((⟨#[48, 49, 50, 51, 52, 53, 54, 55, 56, 57]⟩ : ByteArray).extract j (j + 1)).data.toList = [(48 + j).toUInt8] := by
  have : ∀ m : Fin 10, ((⟨#[48, 49, 50, 51, 52, 53, 54, 55, 56, 57]⟩ : ByteArray).extract m.val (m.val + 1)).data.toList = [(48 + m.val).toUInt8] := by decide
  exact this ⟨j, h⟩
theorem Width_of (t : Mt.Fo) (p : Option Addr) (c : Nat) (s : ByteArray) (v : Nat) (hv : t.width s.data.toList = v) (w : World) (h : NuR w w.heap.size p t.ws) (hs : t.Sane) (hl : s.size ≤ 4294967296) (L f o : Nat) (h1 : L = t.ws.length) (h2 : f = t.first) (h3 : o = t.other) :
    Calls Try.prog 13 #[.agg #[.int .i64 f, .slice p L c, .int .i64 o], .string s] w fun e w' => e = .returned (.int .i64 v) ∧ Kept w w' := by
  subst h1 h2 h3 hv
  exact Width_any t p c s w h hs hl

set_option maxRecDepth 100000 in
set_option maxHeartbeats 16000000 in
theorem standard_walk0 (n : Int) (b : UInt8) (hn : n % 65536 % 3 = 0) (w : World) :
    Calls Try.prog 8 #[.int .i64 n, .int .u8 b.toNat] w fun e w' => e = .returned (.bool true) ∧ Kept w w' := by
  have AW := Lib.hid (awake13_any w)
  obtain ⟨g1, g2, g3, g4⟩ := Mt.good_facts Mt.good_all.1
  have hbt := b.toNat_lt
  obtain ⟨z, hz⟩ : ∃ z : Int, z = n % 65536 := ⟨_, rfl⟩
  have hb : bits .and .i64 n 65535 = z := by rw [and_65535, hz]
  have z0 : 0 ≤ z := by omega
  have z1 : z % 3 = 0 := by rw [hz]; exact hn
  obtain ⟨j, hj⟩ : ∃ j : Nat, j = b.toNat % 10 := ⟨_, rfl⟩
  have hj1 : j < 10 := by omega
  have hjz : (b.toNat : Int) % 10 = (j : Int) := by omega
  obtain ⟨vD, hvD⟩ : ∃ v, v = Mt.helv.one 48 := ⟨_, rfl⟩
  obtain ⟨vB, hvB⟩ : ∃ v, v = Mt.helv.one b.toNat := ⟨_, rfl⟩
  obtain ⟨vW, hvW⟩ : ∃ v, v = Mt.helv.one 87 := ⟨_, rfl⟩
  obtain ⟨vV, hvV⟩ : ∃ v, v = Mt.helv.one 119 := ⟨_, rfl⟩
  obtain ⟨vI, hvI⟩ : ∃ v, v = Mt.helv.one 105 := ⟨_, rfl⟩
  obtain ⟨vM, hvM⟩ : ∃ v, v = Mt.helv.one 109 := ⟨_, rfl⟩
  have i1 : 0 < vB := by rw [hvB]; exact g2 _ hbt
  have i2 : vV ≤ vW := by rw [hvV, hvW]; exact g3
  have i3 : vI ≤ vM := by rw [hvI, hvM]; exact g4
  have i1' : (0 : Int) < (vB : Int) := by omega
  have i2' : (vV : Int) ≤ (vW : Int) := by omega
  have i3' : (vI : Int) ≤ (vM : Int) := by omega
  have i4' : ((vD : Int) == (vD : Int)) = true := by simp
  obtain ⟨X, hX⟩ : ∃ X, X = (⟨#[48, 49, 50, 51, 52, 53, 54, 55, 56, 57]⟩ : ByteArray).extract j (j + 1) := ⟨_, rfl⟩
  have hXw : Mt.helv.width X.data.toList = vD := by
    rw [hX, Mt.digit_at j hj1, hvD, ← g1 j hj1]
    show Mt.helv.one (48 + j).toUInt8.toNat + 0 = _
    rw [Mt.u8_lit _ (by omega)]; rfl
  have hXl : X.size ≤ 4294967296 := by rw [Lib.size_eq, hX, Mt.digit_at j hj1]; simp
  have WB := Lib.hid (show Mt.helv.width (⟨#[b]⟩ : ByteArray).data.toList = vB by rw [hvB]; rfl)
  have W0 := Lib.hid (show Mt.helv.width (⟨#[48]⟩ : ByteArray).data.toList = vD by rw [hvD]; rfl)
  have WW := Lib.hid (show Mt.helv.width (⟨#[87]⟩ : ByteArray).data.toList = vW by rw [hvW]; rfl)
  have WV := Lib.hid (show Mt.helv.width (⟨#[119]⟩ : ByteArray).data.toList = vV by rw [hvV]; rfl)
  have WI := Lib.hid (show Mt.helv.width (⟨#[105]⟩ : ByteArray).data.toList = vI by rw [hvI]; rfl)
  have WM := Lib.hid (show Mt.helv.width (⟨#[109]⟩ : ByteArray).data.toList = vM by rw [hvM]; rfl)
  have HXW := Lib.hid hXw
  have CS := Lib.hid (fun wx => Standard_helv wx)
  have hcv := fun (W : World) => (show (convert 45 9 (.slice (some ⟨W.heap.size, 0, none⟩) 1 1)).run Try.prog (W.alloc (.cells #[.int .u8 b.toNat] 5)) = .ok (.string ⟨#[b]⟩) (W.alloc (.cells #[.int .u8 b.toNat] 5)) from (MkB.string (MkB.new W [b] #[.int .u8 b.toNat] rfl (0, 0))))
  have hXe := hX.symm
  have hsl := fun (W : World) => (show (Instr.slice 9 (.string (⟨#[48, 49, 50, 51, 52, 53, 54, 55, 56, 57]⟩ : ByteArray)) (some (.int .i64 (j : Int))) (some (.int .i64 ((j : Int) + 1))) none).run Try.prog W = .ok (.string X) W from by rw [hX]; exact Mt.slice_one _ j (by simp [ByteArray.size]; omega) W)
  have hw1 : IntKind.i64.wrap ((j : Int) + 1) = (j : Int) + 1 := by rw [IntKind.wrap_i64]; omega
  clear hz hn hj g1 g2 g3 g4 hvD hvB hvW hvV hvI hvM hX hXw
  go_enter Try.func8, Try.ntmps8
  go_wp2_with fail
  (with_reducible refine AW.out.mono ?_)
  rintro e w1 ⟨rfl, hk1⟩
  have K1 := Lib.hid hk1
  clear hk1
  go_wp2_with fail
  (with_reducible refine (CS.out _).mono ?_)
  rintro e w2 ⟨p, c, rfl, hnu, hk2⟩
  have K2 := Lib.hid (show Kept w w2 from ((K1.out.alloc _ _)).trans hk2)
  clear hk2
  unfold Mt.fontV
  obtain ⟨L, hL⟩ : ∃ L, L = Mt.helv.ws.length := ⟨_, rfl⟩
  have NU := Lib.hid (fun wx (k : Kept w2 wx) => (hnu.keep (Nat.le_refl _) k).up (Below.size k))
  have CX := Lib.hid (fun (s : ByteArray) (v : Nat) (hv : Mt.helv.width s.data.toList = v) (hl : s.size ≤ 4294967296) wx (k : Kept w2 wx) => (show Calls Try.prog 13 #[.agg #[.int .i64 32, .slice p L c, .int .i64 556], .string s] wx fun e w' => e = .returned (.int .i64 v) ∧ Kept wx w' from Width_of Mt.helv p c s v hv wx (NU.out wx k) Mt.helv_sane hl L 32 556 hL rfl rfl))
  have CD := Lib.hid (CX.out X vD HXW.out hXl)
  have C0 := Lib.hid (CX.out ⟨#[48]⟩ vD W0.out (by decide))
  have CB := Lib.hid (CX.out ⟨#[b]⟩ vB WB.out (by show 1 ≤ _; decide))
  have CW := Lib.hid (CX.out ⟨#[87]⟩ vW WW.out (by decide))
  have CV := Lib.hid (CX.out ⟨#[119]⟩ vV WV.out (by decide))
  have CI := Lib.hid (CX.out ⟨#[105]⟩ vI WI.out (by decide))
  have CM := Lib.hid (CX.out ⟨#[109]⟩ vM WM.out (by decide))
  rw [← hL, show ((Mt.helv.first : Nat) : Int) = 32 from rfl, show ((Mt.helv.other : Nat) : Int) = 556 from rfl]
  clear hnu hL hXl
  go_upto_region 5 with fail
  obtain ⟨B, hB⟩ : ∃ B, B = w2.heap.size := ⟨_, rfl⟩
  have SK := Lib.hid (show ∀ w', Kept (w2.alloc (.cells #[.int .i64 32, .slice p L c, .int .i64 556] 28)) w' → (w'.cell? ⟨B, 0, none⟩ = some (.int .i64 32) ∧ w'.cell? ⟨B, 1, none⟩ = some (.slice p L c) ∧ w'.cell? ⟨B, 2, none⟩ = some (.int .i64 556)) from fun w' k => by
    have bb := (Blk.fresh w2 #[.int .i64 32, .slice p L c, .int .i64 556] 28).kept k
    rw [hB]
    exact ⟨bb.cell 0, bb.cell 1, bb.cell 2⟩)
  have KX := Lib.hid (Kept.refl (w2.alloc (.cells #[.int .i64 32, .slice p L c, .int .i64 556] 28)))
  have KW := Lib.hid (show Kept w (w2.alloc (.cells #[.int .i64 32, .slice p L c, .int .i64 556] 28)) from K2.out.alloc _ _)
  have KY := Lib.hid (fun wx (k : Kept (w2.alloc (.cells #[.int .i64 32, .slice p L c, .int .i64 556] 28)) wx) => (((Kept.refl w2).alloc _ _).trans k : Kept w2 wx))
  obtain ⟨s0, s1, s2⟩ := SK.out _ KX.out
  generalize hG : w2.alloc (.cells #[.int .i64 32, .slice p L c, .int .i64 556] 28) = G at SK KX KW KY s0 s1 s2 ⊢
  rw [← hB]
  clear hG hB
  refine wp_region_held_drew (S := fun w' => (w'.cell? ⟨B, 0, none⟩ = some (.int .i64 32) ∧ w'.cell? ⟨B, 1, none⟩ = some (.slice p L c) ∧ w'.cell? ⟨B, 2, none⟩ = some (.int .i64 556))) (by kernel_rfl) ?_ (fun hHeld => ?_)
  · exact ⟨s0, s1, s2⟩
  refine wpAnyH_take (i := 0) (oi := ⟨some 24, _, _, _, _, _⟩) (v := ?_) rfl (by kernel_rfl) (by kernel_rfl) (by kernel_rfl) (fun _ _ _ h => h) (Or.inl ⟨by rfl, ?_⟩) (by assumption) ?_
  rotate_left 1
  · (intro w hSw; (try dsimp only at hSw); go_simp <;> with_reducible rfl)
  try simp only [Act.put, List.setIfInBounds_toArray, List.set_cons_zero, List.set_cons_succ]
  refine wpAnyH_take (i := 1) (oi := ⟨some 25, _, _, _, _, _⟩) (v := ?_) rfl (by kernel_rfl) (by kernel_rfl) (by kernel_rfl) (fun _ _ _ h => h) (Or.inl ⟨by rfl, ?_⟩) (by assumption) ?_
  rotate_left 1
  · (intro w hSw; (try dsimp only at hSw); go_simp <;> with_reducible rfl)
  try simp only [Act.put, List.setIfInBounds_toArray, List.set_cons_zero, List.set_cons_succ]
  refine wpAnyH_take (i := 2) (oi := ⟨some 26, _, _, _, _, _⟩) (v := ?_) rfl (by kernel_rfl) (by kernel_rfl) (by kernel_rfl) (fun _ _ _ h => h) (Or.inl ⟨by rfl, ?_⟩) (by assumption) ?_
  rotate_left 1
  · (intro w hSw; (try dsimp only at hSw); go_simp <;> with_reducible rfl)
  try simp only [Act.put, List.setIfInBounds_toArray, List.set_cons_zero, List.set_cons_succ]
  refine wpAnyH_take (i := 3) (oi := ⟨some 27, _, _, _, _, _⟩) (v := ?_) rfl (by kernel_rfl) (by kernel_rfl) (by kernel_rfl) (fun _ _ _ h => h) (Or.inl ⟨by rfl, ?_⟩) (by assumption) ?_
  rotate_left 1
  · (intro w hSw; (try dsimp only at hSw); go_simp <;> with_reducible rfl)
  try simp only [Act.put, List.setIfInBounds_toArray, List.set_cons_zero, List.set_cons_succ]
  refine wpAnyH_take (i := 4) (oi := ⟨some 28, _, _, _, _, _⟩) (v := ?_) rfl (by kernel_rfl) (by kernel_rfl) (by kernel_rfl) (fun _ _ _ h => h) (Or.inl ⟨by rfl, ?_⟩) (by assumption) ?_
  rotate_left 1
  · (intro w hSw; (try dsimp only at hSw); go_simp <;> with_reducible rfl)
  try simp only [Act.put, List.setIfInBounds_toArray, List.set_cons_zero, List.set_cons_succ]
  refine wpAnyH_take (i := 5) (oi := ⟨some 29, _, _, _, _, _⟩) (v := ?_) rfl (by kernel_rfl) (by kernel_rfl) (by kernel_rfl) (fun _ _ _ h => h) (Or.inl ⟨by rfl, ?_⟩) (by assumption) ?_
  rotate_left 1
  · (intro w hSw; (try dsimp only at hSw); go_simp <;> with_reducible rfl)
  try simp only [Act.put, List.setIfInBounds_toArray, List.set_cons_zero, List.set_cons_succ]
  refine wpAnyH_take (i := 6) (oi := ⟨some 30, _, _, _, _, _⟩) (v := ?_) rfl (by kernel_rfl) (by kernel_rfl) (by kernel_rfl) (fun _ _ _ h => h) (Or.inl ⟨by rfl, ?_⟩) (by assumption) ?_
  rotate_left 1
  · (intro w hSw; (try dsimp only at hSw); go_simp <;> with_reducible rfl)
  try simp only [Act.put, List.setIfInBounds_toArray, List.set_cons_zero, List.set_cons_succ]
  refine wpAnyH_take (i := 7) (oi := ⟨some 31, _, _, _, _, _⟩) (v := ?_) rfl (by kernel_rfl) (by kernel_rfl) (by kernel_rfl) (fun _ _ _ h => h) (Or.inl ⟨by rfl, ?_⟩) (by assumption) ?_
  rotate_left 1
  · (intro w hSw; (try dsimp only at hSw); go_simp <;> with_reducible rfl)
  try simp only [Act.put, List.setIfInBounds_toArray, List.set_cons_zero, List.set_cons_succ]
  refine wpAnyH_take (i := 8) (oi := ⟨some 32, _, _, _, _, _⟩) (v := ?_) rfl (by kernel_rfl) (by kernel_rfl) (by kernel_rfl) (fun _ _ _ h => h) (Or.inl ⟨by rfl, ?_⟩) (by assumption) ?_
  rotate_left 1
  · (intro w hSw; (try dsimp only at hSw); go_simp <;> with_reducible rfl)
  try simp only [Act.put, List.setIfInBounds_toArray, List.set_cons_zero, List.set_cons_succ]
  refine wpAnyH_take (i := 9) (oi := ⟨some 33, _, _, _, _, _⟩) (v := ?_) rfl (by kernel_rfl) (by kernel_rfl) (by kernel_rfl) (fun _ _ _ h => h) (Or.inl ⟨by rfl, ?_⟩) (by assumption) ?_
  rotate_left 1
  · (intro w hSw; (try dsimp only at hSw); go_simp <;> with_reducible rfl)
  try simp only [Act.put, List.setIfInBounds_toArray, List.set_cons_zero, List.set_cons_succ]
  refine wpAnyH_take (i := 10) (oi := ⟨some 34, _, _, _, _, _⟩) (v := ?_) rfl (by kernel_rfl) (by kernel_rfl) (by kernel_rfl) (fun _ _ _ h => h) (Or.inl ⟨by rfl, ?_⟩) (by assumption) ?_
  rotate_left 1
  · (intro w hSw; (try dsimp only at hSw); go_simp <;> with_reducible rfl)
  try simp only [Act.put, List.setIfInBounds_toArray, List.set_cons_zero, List.set_cons_succ]
  refine wpAnyH_take (i := 12) (oi := ⟨some 36, _, _, _, _, _⟩) (v := ?_) rfl (by kernel_rfl) (by kernel_rfl) (by kernel_rfl) (fun _ _ _ h => h) (Or.inl ⟨by rfl, ?_⟩) (by assumption) ?_
  rotate_left 1
  · (intro w hSw; (try dsimp only at hSw); go_simp <;> with_reducible rfl)
  try simp only [Act.put, List.setIfInBounds_toArray, List.set_cons_zero, List.set_cons_succ]
  refine wpAnyH_ready (rs := [11]) (by kernel_rfl) (by simp) ?_
  refine AllReadyH.cons (o := ⟨some 35, _, _, _, _, _⟩) rfl (fun K hK => ?_) AllReadyH.nil
  rw [if_pos (by rfl)]
  go_simp
  (first | (with_reducible refine (CD.out _ (KY.out _ KX.out)).mono ?_) | (with_reducible refine (CD.out _ (KY.out _ KX.out.drew)).mono ?_))
  rintro e wn ⟨rfl, kn⟩
  (first | (with_reducible have KX := Lib.hid (KX.out.trans kn)) | (with_reducible have KX := Lib.hid (KX.out.drew.trans kn)))
  obtain ⟨s0, s1, s2⟩ := SK.out _ KX.out
  go_simp
  refine hK.out _ _ ?_ (fun hHeld => ?_)
  · exact ⟨s0, s1, s2⟩
  clear hK K
  try simp only [Act.put, List.setIfInBounds_toArray, List.set_cons_zero, List.set_cons_succ]
  refine wpAnyH_ready (rs := [13]) (by kernel_rfl) (by simp) ?_
  refine AllReadyH.cons (o := ⟨some 37, _, _, _, _, _⟩) rfl (fun K hK => ?_) AllReadyH.nil
  rw [if_pos (by rfl)]
  go_simp
  (first | (with_reducible refine (C0.out _ (KY.out _ KX.out)).mono ?_) | (with_reducible refine (C0.out _ (KY.out _ KX.out.drew)).mono ?_))
  rintro e wn ⟨rfl, kn⟩
  (first | (with_reducible have KX := Lib.hid (KX.out.trans kn)) | (with_reducible have KX := Lib.hid (KX.out.drew.trans kn)))
  obtain ⟨s0, s1, s2⟩ := SK.out _ KX.out
  go_simp
  refine hK.out _ _ ?_ (fun hHeld => ?_)
  · exact ⟨s0, s1, s2⟩
  clear hK K
  try simp only [Act.put, List.setIfInBounds_toArray, List.set_cons_zero, List.set_cons_succ]
  refine wpAnyH_take (i := 14) (oi := ⟨some 38, _, _, _, _, _⟩) (v := ?_) rfl (by kernel_rfl) (by kernel_rfl) (by kernel_rfl) (fun _ _ _ h => h) (Or.inl ⟨by rfl, ?_⟩) (by assumption) ?_
  rotate_left 1
  · (intro w hSw; (try dsimp only at hSw); go_simp <;> with_reducible rfl)
  try simp only [Act.put, List.setIfInBounds_toArray, List.set_cons_zero, List.set_cons_succ]
  refine wpAnyH_take (i := 15) (oi := ⟨some 39, _, _, _, _, _⟩) (v := ?_) rfl (by kernel_rfl) (by kernel_rfl) (by kernel_rfl) (fun _ _ _ h => h) (Or.inl ⟨by rfl, ?_⟩) (by assumption) ?_
  rotate_left 1
  · (intro w hSw; (try dsimp only at hSw); go_simp <;> with_reducible rfl)
  try simp only [Act.put, List.setIfInBounds_toArray, List.set_cons_zero, List.set_cons_succ]
  refine wpAnyH_take (i := 16) (oi := ⟨some 40, _, _, _, _, _⟩) (v := ?_) rfl (by kernel_rfl) (by kernel_rfl) (by kernel_rfl) (fun _ _ _ h => h) (Or.inl ⟨by rfl, ?_⟩) (by assumption) ?_
  rotate_left 1
  · (intro w hSw; (try dsimp only at hSw); go_simp <;> with_reducible rfl)
  try simp only [Act.put, List.setIfInBounds_toArray, List.set_cons_zero, List.set_cons_succ]
  refine wpAnyH_take (i := 17) (oi := ⟨some 41, _, _, _, _, _⟩) (v := ?_) rfl (by kernel_rfl) (by kernel_rfl) (by kernel_rfl) (fun _ _ _ h => h) (Or.inl ⟨by rfl, ?_⟩) (by assumption) ?_
  rotate_left 1
  · (intro w hSw; (try dsimp only at hSw); go_simp <;> with_reducible rfl)
  try simp only [Act.put, List.setIfInBounds_toArray, List.set_cons_zero, List.set_cons_succ]
  refine wpAnyH_take (i := 18) (oi := ⟨some 42, _, _, _, _, _⟩) (v := ?_) rfl (by kernel_rfl) (by kernel_rfl) (by kernel_rfl) (fun _ _ _ h => h) (Or.inl ⟨by rfl, ?_⟩) (by assumption) ?_
  rotate_left 1
  · (intro w hSw; (try dsimp only at hSw); go_simp <;> with_reducible rfl)
  try simp only [Act.put, List.setIfInBounds_toArray, List.set_cons_zero, List.set_cons_succ]
  refine wpAnyH_ready (rs := [19]) (by kernel_rfl) (by simp) ?_
  refine AllReadyH.cons (o := ⟨some 43, _, _, _, _, _⟩) rfl (fun K hK => ?_) AllReadyH.nil
  rw [if_pos (by rfl)]
  go_simp
  have KX := Lib.hid (KX.out.alloc #[.int .u8 (b.toNat : Int)] 5)
  obtain ⟨s0, s1, s2⟩ := SK.out _ KX.out
  refine hK.out _ _ ?_ (fun hHeld => ?_)
  · exact ⟨s0, s1, s2⟩
  clear hK K
  try simp only [Act.put, List.setIfInBounds_toArray, List.set_cons_zero, List.set_cons_succ]
  refine wpAnyH_ready (rs := [20]) (by kernel_rfl) (by simp) ?_
  refine AllReadyH.cons (o := ⟨some 44, _, _, _, _, _⟩) rfl (fun K hK => ?_) AllReadyH.nil
  rw [if_pos (by rfl)]
  go_simp
  refine hK.out _ _ ?_ (fun hHeld => ?_)
  · exact ⟨s0, s1, s2⟩
  clear hK K
  try simp only [Act.put, List.setIfInBounds_toArray, List.set_cons_zero, List.set_cons_succ]
  refine wpAnyH_ready (rs := [21]) (by kernel_rfl) (by simp) ?_
  refine AllReadyH.cons (o := ⟨some 45, _, _, _, _, _⟩) rfl (fun K hK => ?_) AllReadyH.nil
  rw [if_pos (by rfl)]
  go_simp
  (first | (with_reducible refine (CB.out _ (KY.out _ KX.out)).mono ?_) | (with_reducible refine (CB.out _ (KY.out _ KX.out.drew)).mono ?_))
  rintro e wn ⟨rfl, kn⟩
  (first | (with_reducible have KX := Lib.hid (KX.out.trans kn)) | (with_reducible have KX := Lib.hid (KX.out.drew.trans kn)))
  obtain ⟨s0, s1, s2⟩ := SK.out _ KX.out
  go_simp
  refine hK.out _ _ ?_ (fun hHeld => ?_)
  · exact ⟨s0, s1, s2⟩
  clear hK K
  try simp only [Act.put, List.setIfInBounds_toArray, List.set_cons_zero, List.set_cons_succ]
  refine wpAnyH_take (i := 22) (oi := ⟨some 46, _, _, _, _, _⟩) (v := ?_) rfl (by kernel_rfl) (by kernel_rfl) (by kernel_rfl) (fun _ _ _ h => h) (Or.inl ⟨by rfl, ?_⟩) (by assumption) ?_
  rotate_left 1
  · (intro w hSw; (try dsimp only at hSw); go_simp <;> with_reducible rfl)
  try simp only [Act.put, List.setIfInBounds_toArray, List.set_cons_zero, List.set_cons_succ]
  refine wpAnyH_take (i := 23) (oi := ⟨some 47, _, _, _, _, _⟩) (v := ?_) rfl (by kernel_rfl) (by kernel_rfl) (by kernel_rfl) (fun _ _ _ h => h) (Or.inl ⟨by rfl, ?_⟩) (by assumption) ?_
  rotate_left 1
  · (intro w hSw; (try dsimp only at hSw); go_simp <;> with_reducible rfl)
  try simp only [Act.put, List.setIfInBounds_toArray, List.set_cons_zero, List.set_cons_succ]
  refine wpAnyH_take (i := 24) (oi := ⟨some 48, _, _, _, _, _⟩) (v := ?_) rfl (by kernel_rfl) (by kernel_rfl) (by kernel_rfl) (fun _ _ _ h => h) (Or.inl ⟨by rfl, ?_⟩) (by assumption) ?_
  rotate_left 1
  · (intro w hSw; (try dsimp only at hSw); go_simp <;> with_reducible rfl)
  try simp only [Act.put, List.setIfInBounds_toArray, List.set_cons_zero, List.set_cons_succ]
  refine wpAnyH_take (i := 25) (oi := ⟨some 49, _, _, _, _, _⟩) (v := ?_) rfl (by kernel_rfl) (by kernel_rfl) (by kernel_rfl) (fun _ _ _ h => h) (Or.inl ⟨by rfl, ?_⟩) (by assumption) ?_
  rotate_left 1
  · (intro w hSw; (try dsimp only at hSw); go_simp <;> with_reducible rfl)
  try simp only [Act.put, List.setIfInBounds_toArray, List.set_cons_zero, List.set_cons_succ]
  refine wpAnyH_take (i := 27) (oi := ⟨some 51, _, _, _, _, _⟩) (v := ?_) rfl (by kernel_rfl) (by kernel_rfl) (by kernel_rfl) (fun _ _ _ h => h) (Or.inl ⟨by rfl, ?_⟩) (by assumption) ?_
  rotate_left 1
  · (intro w hSw; (try dsimp only at hSw); go_simp <;> with_reducible rfl)
  try simp only [Act.put, List.setIfInBounds_toArray, List.set_cons_zero, List.set_cons_succ]
  refine wpAnyH_ready (rs := [26]) (by kernel_rfl) (by simp) ?_
  refine AllReadyH.cons (o := ⟨some 50, _, _, _, _, _⟩) rfl (fun K hK => ?_) AllReadyH.nil
  rw [if_pos (by rfl)]
  go_simp
  (first | (with_reducible refine (CW.out _ (KY.out _ KX.out)).mono ?_) | (with_reducible refine (CW.out _ (KY.out _ KX.out.drew)).mono ?_))
  rintro e wn ⟨rfl, kn⟩
  (first | (with_reducible have KX := Lib.hid (KX.out.trans kn)) | (with_reducible have KX := Lib.hid (KX.out.drew.trans kn)))
  obtain ⟨s0, s1, s2⟩ := SK.out _ KX.out
  go_simp
  refine hK.out _ _ ?_ (fun hHeld => ?_)
  · exact ⟨s0, s1, s2⟩
  clear hK K
  try simp only [Act.put, List.setIfInBounds_toArray, List.set_cons_zero, List.set_cons_succ]
  refine wpAnyH_ready (rs := [28]) (by kernel_rfl) (by simp) ?_
  refine AllReadyH.cons (o := ⟨some 52, _, _, _, _, _⟩) rfl (fun K hK => ?_) AllReadyH.nil
  rw [if_pos (by rfl)]
  go_simp
  (first | (with_reducible refine (CV.out _ (KY.out _ KX.out)).mono ?_) | (with_reducible refine (CV.out _ (KY.out _ KX.out.drew)).mono ?_))
  rintro e wn ⟨rfl, kn⟩
  (first | (with_reducible have KX := Lib.hid (KX.out.trans kn)) | (with_reducible have KX := Lib.hid (KX.out.drew.trans kn)))
  obtain ⟨s0, s1, s2⟩ := SK.out _ KX.out
  go_simp
  refine hK.out _ _ ?_ (fun hHeld => ?_)
  · exact ⟨s0, s1, s2⟩
  clear hK K
  try simp only [Act.put, List.setIfInBounds_toArray, List.set_cons_zero, List.set_cons_succ]
  refine wpAnyH_take (i := 29) (oi := ⟨some 53, _, _, _, _, _⟩) (v := ?_) rfl (by kernel_rfl) (by kernel_rfl) (by kernel_rfl) (fun _ _ _ h => h) (Or.inl ⟨by rfl, ?_⟩) (by assumption) ?_
  rotate_left 1
  · (intro w hSw; (try dsimp only at hSw); go_simp <;> with_reducible rfl)
  try simp only [Act.put, List.setIfInBounds_toArray, List.set_cons_zero, List.set_cons_succ]
  refine wpAnyH_take (i := 30) (oi := ⟨some 54, _, _, _, _, _⟩) (v := ?_) rfl (by kernel_rfl) (by kernel_rfl) (by kernel_rfl) (fun _ _ _ h => h) (Or.inl ⟨by rfl, ?_⟩) (by assumption) ?_
  rotate_left 1
  · (intro w hSw; (try dsimp only at hSw); go_simp <;> with_reducible rfl)
  try simp only [Act.put, List.setIfInBounds_toArray, List.set_cons_zero, List.set_cons_succ]
  refine wpAnyH_take (i := 31) (oi := ⟨some 55, _, _, _, _, _⟩) (v := ?_) rfl (by kernel_rfl) (by kernel_rfl) (by kernel_rfl) (fun _ _ _ h => h) (Or.inl ⟨by rfl, ?_⟩) (by assumption) ?_
  rotate_left 1
  · (intro w hSw; (try dsimp only at hSw); go_simp <;> with_reducible rfl)
  try simp only [Act.put, List.setIfInBounds_toArray, List.set_cons_zero, List.set_cons_succ]
  refine wpAnyH_take (i := 32) (oi := ⟨some 56, _, _, _, _, _⟩) (v := ?_) rfl (by kernel_rfl) (by kernel_rfl) (by kernel_rfl) (fun _ _ _ h => h) (Or.inl ⟨by rfl, ?_⟩) (by assumption) ?_
  rotate_left 1
  · (intro w hSw; (try dsimp only at hSw); go_simp <;> with_reducible rfl)
  try simp only [Act.put, List.setIfInBounds_toArray, List.set_cons_zero, List.set_cons_succ]
  refine wpAnyH_take (i := 34) (oi := ⟨some 58, _, _, _, _, _⟩) (v := ?_) rfl (by kernel_rfl) (by kernel_rfl) (by kernel_rfl) (fun _ _ _ h => h) (Or.inl ⟨by rfl, ?_⟩) (by assumption) ?_
  rotate_left 1
  · (intro w hSw; (try dsimp only at hSw); go_simp <;> with_reducible rfl)
  try simp only [Act.put, List.setIfInBounds_toArray, List.set_cons_zero, List.set_cons_succ]
  refine wpAnyH_ready (rs := [33]) (by kernel_rfl) (by simp) ?_
  refine AllReadyH.cons (o := ⟨some 57, _, _, _, _, _⟩) rfl (fun K hK => ?_) AllReadyH.nil
  rw [if_pos (by rfl)]
  go_simp
  (first | (with_reducible refine (CI.out _ (KY.out _ KX.out)).mono ?_) | (with_reducible refine (CI.out _ (KY.out _ KX.out.drew)).mono ?_))
  rintro e wn ⟨rfl, kn⟩
  (first | (with_reducible have KX := Lib.hid (KX.out.trans kn)) | (with_reducible have KX := Lib.hid (KX.out.drew.trans kn)))
  obtain ⟨s0, s1, s2⟩ := SK.out _ KX.out
  go_simp
  refine hK.out _ _ ?_ (fun hHeld => ?_)
  · exact ⟨s0, s1, s2⟩
  clear hK K
  try simp only [Act.put, List.setIfInBounds_toArray, List.set_cons_zero, List.set_cons_succ]
  refine wpAnyH_ready (rs := [35]) (by kernel_rfl) (by simp) ?_
  refine AllReadyH.cons (o := ⟨some 59, _, _, _, _, _⟩) rfl (fun K hK => ?_) AllReadyH.nil
  rw [if_pos (by rfl)]
  go_simp
  (first | (with_reducible refine (CM.out _ (KY.out _ KX.out)).mono ?_) | (with_reducible refine (CM.out _ (KY.out _ KX.out.drew)).mono ?_))
  rintro e wn ⟨rfl, kn⟩
  (first | (with_reducible have KX := Lib.hid (KX.out.trans kn)) | (with_reducible have KX := Lib.hid (KX.out.drew.trans kn)))
  obtain ⟨s0, s1, s2⟩ := SK.out _ KX.out
  go_simp
  refine hK.out _ _ ?_ (fun hHeld => ?_)
  · exact ⟨s0, s1, s2⟩
  clear hK K
  try simp only [Act.put, List.setIfInBounds_toArray, List.set_cons_zero, List.set_cons_succ]
  refine wpAnyH_take (i := 36) (oi := ⟨some 60, _, _, _, _, _⟩) (v := ?_) rfl (by kernel_rfl) (by kernel_rfl) (by kernel_rfl) (fun _ _ _ h => h) (Or.inl ⟨by rfl, ?_⟩) (by assumption) ?_
  rotate_left 1
  · (intro w hSw; (try dsimp only at hSw); go_simp <;> with_reducible rfl)
  try simp only [Act.put, List.setIfInBounds_toArray, List.set_cons_zero, List.set_cons_succ]
  refine wpAnyH_take (i := 37) (oi := ⟨some 61, _, _, _, _, _⟩) (v := ?_) rfl (by kernel_rfl) (by kernel_rfl) (by kernel_rfl) (fun _ _ _ h => h) (Or.inl ⟨by rfl, ?_⟩) (by assumption) ?_
  rotate_left 1
  · (intro w hSw; (try dsimp only at hSw); go_simp <;> with_reducible rfl)
  try simp only [Act.put, List.setIfInBounds_toArray, List.set_cons_zero, List.set_cons_succ]
  refine wpAnyH_take (i := 38) (oi := ⟨some 4, _, _, _, _, _⟩) (v := ?_) rfl (by kernel_rfl) (by kernel_rfl) (by kernel_rfl) (fun _ _ _ h => h) (Or.inl ⟨by rfl, ?_⟩) (by assumption) ?_
  rotate_left 1
  · (intro w hSw; (try dsimp only at hSw); go_simp <;> with_reducible rfl)
  try simp only [Act.put, List.setIfInBounds_toArray, List.set_cons_zero, List.set_cons_succ]
  refine wpAnyH_done (by kernel_rfl) ?_ _
  clear hHeld
  go_wp2_with fail
  go_ret
  exact ⟨rfl, KW.out.trans KX.out⟩

set_option maxRecDepth 100000 in
set_option maxHeartbeats 16000000 in
theorem standard_walk1 (n : Int) (b : UInt8) (hn : n % 65536 % 3 = 1) (w : World) :
    Calls Try.prog 8 #[.int .i64 n, .int .u8 b.toNat] w fun e w' => e = .returned (.bool true) ∧ Kept w w' := by
  have AW := Lib.hid (awake13_any w)
  obtain ⟨g1, g2, g3, g4⟩ := Mt.good_facts Mt.good_all.2.1
  have hbt := b.toNat_lt
  obtain ⟨z, hz⟩ : ∃ z : Int, z = n % 65536 := ⟨_, rfl⟩
  have hb : bits .and .i64 n 65535 = z := by rw [and_65535, hz]
  have z0 : 0 ≤ z := by omega
  have z1 : z % 3 = 1 := by rw [hz]; exact hn
  obtain ⟨j, hj⟩ : ∃ j : Nat, j = b.toNat % 10 := ⟨_, rfl⟩
  have hj1 : j < 10 := by omega
  have hjz : (b.toNat : Int) % 10 = (j : Int) := by omega
  obtain ⟨vD, hvD⟩ : ∃ v, v = Mt.tims.one 48 := ⟨_, rfl⟩
  obtain ⟨vB, hvB⟩ : ∃ v, v = Mt.tims.one b.toNat := ⟨_, rfl⟩
  obtain ⟨vW, hvW⟩ : ∃ v, v = Mt.tims.one 87 := ⟨_, rfl⟩
  obtain ⟨vV, hvV⟩ : ∃ v, v = Mt.tims.one 119 := ⟨_, rfl⟩
  obtain ⟨vI, hvI⟩ : ∃ v, v = Mt.tims.one 105 := ⟨_, rfl⟩
  obtain ⟨vM, hvM⟩ : ∃ v, v = Mt.tims.one 109 := ⟨_, rfl⟩
  have i1 : 0 < vB := by rw [hvB]; exact g2 _ hbt
  have i2 : vV ≤ vW := by rw [hvV, hvW]; exact g3
  have i3 : vI ≤ vM := by rw [hvI, hvM]; exact g4
  have i1' : (0 : Int) < (vB : Int) := by omega
  have i2' : (vV : Int) ≤ (vW : Int) := by omega
  have i3' : (vI : Int) ≤ (vM : Int) := by omega
  have i4' : ((vD : Int) == (vD : Int)) = true := by simp
  obtain ⟨X, hX⟩ : ∃ X, X = (⟨#[48, 49, 50, 51, 52, 53, 54, 55, 56, 57]⟩ : ByteArray).extract j (j + 1) := ⟨_, rfl⟩
  have hXw : Mt.tims.width X.data.toList = vD := by
    rw [hX, Mt.digit_at j hj1, hvD, ← g1 j hj1]
    show Mt.tims.one (48 + j).toUInt8.toNat + 0 = _
    rw [Mt.u8_lit _ (by omega)]; rfl
  have hXl : X.size ≤ 4294967296 := by rw [Lib.size_eq, hX, Mt.digit_at j hj1]; simp
  have WB := Lib.hid (show Mt.tims.width (⟨#[b]⟩ : ByteArray).data.toList = vB by rw [hvB]; rfl)
  have W0 := Lib.hid (show Mt.tims.width (⟨#[48]⟩ : ByteArray).data.toList = vD by rw [hvD]; rfl)
  have WW := Lib.hid (show Mt.tims.width (⟨#[87]⟩ : ByteArray).data.toList = vW by rw [hvW]; rfl)
  have WV := Lib.hid (show Mt.tims.width (⟨#[119]⟩ : ByteArray).data.toList = vV by rw [hvV]; rfl)
  have WI := Lib.hid (show Mt.tims.width (⟨#[105]⟩ : ByteArray).data.toList = vI by rw [hvI]; rfl)
  have WM := Lib.hid (show Mt.tims.width (⟨#[109]⟩ : ByteArray).data.toList = vM by rw [hvM]; rfl)
  have HXW := Lib.hid hXw
  have CS := Lib.hid (fun wx => Standard_times wx)
  have hcv := fun (W : World) => (show (convert 45 9 (.slice (some ⟨W.heap.size, 0, none⟩) 1 1)).run Try.prog (W.alloc (.cells #[.int .u8 b.toNat] 5)) = .ok (.string ⟨#[b]⟩) (W.alloc (.cells #[.int .u8 b.toNat] 5)) from (MkB.string (MkB.new W [b] #[.int .u8 b.toNat] rfl (0, 0))))
  have hXe := hX.symm
  have hsl := fun (W : World) => (show (Instr.slice 9 (.string (⟨#[48, 49, 50, 51, 52, 53, 54, 55, 56, 57]⟩ : ByteArray)) (some (.int .i64 (j : Int))) (some (.int .i64 ((j : Int) + 1))) none).run Try.prog W = .ok (.string X) W from by rw [hX]; exact Mt.slice_one _ j (by simp [ByteArray.size]; omega) W)
  have hw1 : IntKind.i64.wrap ((j : Int) + 1) = (j : Int) + 1 := by rw [IntKind.wrap_i64]; omega
  clear hz hn hj g1 g2 g3 g4 hvD hvB hvW hvV hvI hvM hX hXw
  go_enter Try.func8, Try.ntmps8
  go_wp2_with fail
  (with_reducible refine AW.out.mono ?_)
  rintro e w1 ⟨rfl, hk1⟩
  have K1 := Lib.hid hk1
  clear hk1
  go_wp2_with fail
  (with_reducible refine (CS.out _).mono ?_)
  rintro e w2 ⟨p, c, rfl, hnu, hk2⟩
  have K2 := Lib.hid (show Kept w w2 from ((K1.out.alloc _ _)).trans hk2)
  clear hk2
  unfold Mt.fontV
  obtain ⟨L, hL⟩ : ∃ L, L = Mt.tims.ws.length := ⟨_, rfl⟩
  have NU := Lib.hid (fun wx (k : Kept w2 wx) => (hnu.keep (Nat.le_refl _) k).up (Below.size k))
  have CX := Lib.hid (fun (s : ByteArray) (v : Nat) (hv : Mt.tims.width s.data.toList = v) (hl : s.size ≤ 4294967296) wx (k : Kept w2 wx) => (show Calls Try.prog 13 #[.agg #[.int .i64 32, .slice p L c, .int .i64 500], .string s] wx fun e w' => e = .returned (.int .i64 v) ∧ Kept wx w' from Width_of Mt.tims p c s v hv wx (NU.out wx k) Mt.tims_sane hl L 32 500 hL rfl rfl))
  have CD := Lib.hid (CX.out X vD HXW.out hXl)
  have C0 := Lib.hid (CX.out ⟨#[48]⟩ vD W0.out (by decide))
  have CB := Lib.hid (CX.out ⟨#[b]⟩ vB WB.out (by show 1 ≤ _; decide))
  have CW := Lib.hid (CX.out ⟨#[87]⟩ vW WW.out (by decide))
  have CV := Lib.hid (CX.out ⟨#[119]⟩ vV WV.out (by decide))
  have CI := Lib.hid (CX.out ⟨#[105]⟩ vI WI.out (by decide))
  have CM := Lib.hid (CX.out ⟨#[109]⟩ vM WM.out (by decide))
  rw [← hL, show ((Mt.tims.first : Nat) : Int) = 32 from rfl, show ((Mt.tims.other : Nat) : Int) = 500 from rfl]
  clear hnu hL hXl
  go_upto_region 5 with fail
  obtain ⟨B, hB⟩ : ∃ B, B = w2.heap.size := ⟨_, rfl⟩
  have SK := Lib.hid (show ∀ w', Kept (w2.alloc (.cells #[.int .i64 32, .slice p L c, .int .i64 500] 28)) w' → (w'.cell? ⟨B, 0, none⟩ = some (.int .i64 32) ∧ w'.cell? ⟨B, 1, none⟩ = some (.slice p L c) ∧ w'.cell? ⟨B, 2, none⟩ = some (.int .i64 500)) from fun w' k => by
    have bb := (Blk.fresh w2 #[.int .i64 32, .slice p L c, .int .i64 500] 28).kept k
    rw [hB]
    exact ⟨bb.cell 0, bb.cell 1, bb.cell 2⟩)
  have KX := Lib.hid (Kept.refl (w2.alloc (.cells #[.int .i64 32, .slice p L c, .int .i64 500] 28)))
  have KW := Lib.hid (show Kept w (w2.alloc (.cells #[.int .i64 32, .slice p L c, .int .i64 500] 28)) from K2.out.alloc _ _)
  have KY := Lib.hid (fun wx (k : Kept (w2.alloc (.cells #[.int .i64 32, .slice p L c, .int .i64 500] 28)) wx) => (((Kept.refl w2).alloc _ _).trans k : Kept w2 wx))
  obtain ⟨s0, s1, s2⟩ := SK.out _ KX.out
  generalize hG : w2.alloc (.cells #[.int .i64 32, .slice p L c, .int .i64 500] 28) = G at SK KX KW KY s0 s1 s2 ⊢
  rw [← hB]
  clear hG hB
  refine wp_region_held_drew (S := fun w' => (w'.cell? ⟨B, 0, none⟩ = some (.int .i64 32) ∧ w'.cell? ⟨B, 1, none⟩ = some (.slice p L c) ∧ w'.cell? ⟨B, 2, none⟩ = some (.int .i64 500))) (by kernel_rfl) ?_ (fun hHeld => ?_)
  · exact ⟨s0, s1, s2⟩
  refine wpAnyH_take (i := 0) (oi := ⟨some 24, _, _, _, _, _⟩) (v := ?_) rfl (by kernel_rfl) (by kernel_rfl) (by kernel_rfl) (fun _ _ _ h => h) (Or.inl ⟨by rfl, ?_⟩) (by assumption) ?_
  rotate_left 1
  · (intro w hSw; (try dsimp only at hSw); go_simp <;> with_reducible rfl)
  try simp only [Act.put, List.setIfInBounds_toArray, List.set_cons_zero, List.set_cons_succ]
  refine wpAnyH_take (i := 1) (oi := ⟨some 25, _, _, _, _, _⟩) (v := ?_) rfl (by kernel_rfl) (by kernel_rfl) (by kernel_rfl) (fun _ _ _ h => h) (Or.inl ⟨by rfl, ?_⟩) (by assumption) ?_
  rotate_left 1
  · (intro w hSw; (try dsimp only at hSw); go_simp <;> with_reducible rfl)
  try simp only [Act.put, List.setIfInBounds_toArray, List.set_cons_zero, List.set_cons_succ]
  refine wpAnyH_take (i := 2) (oi := ⟨some 26, _, _, _, _, _⟩) (v := ?_) rfl (by kernel_rfl) (by kernel_rfl) (by kernel_rfl) (fun _ _ _ h => h) (Or.inl ⟨by rfl, ?_⟩) (by assumption) ?_
  rotate_left 1
  · (intro w hSw; (try dsimp only at hSw); go_simp <;> with_reducible rfl)
  try simp only [Act.put, List.setIfInBounds_toArray, List.set_cons_zero, List.set_cons_succ]
  refine wpAnyH_take (i := 3) (oi := ⟨some 27, _, _, _, _, _⟩) (v := ?_) rfl (by kernel_rfl) (by kernel_rfl) (by kernel_rfl) (fun _ _ _ h => h) (Or.inl ⟨by rfl, ?_⟩) (by assumption) ?_
  rotate_left 1
  · (intro w hSw; (try dsimp only at hSw); go_simp <;> with_reducible rfl)
  try simp only [Act.put, List.setIfInBounds_toArray, List.set_cons_zero, List.set_cons_succ]
  refine wpAnyH_take (i := 4) (oi := ⟨some 28, _, _, _, _, _⟩) (v := ?_) rfl (by kernel_rfl) (by kernel_rfl) (by kernel_rfl) (fun _ _ _ h => h) (Or.inl ⟨by rfl, ?_⟩) (by assumption) ?_
  rotate_left 1
  · (intro w hSw; (try dsimp only at hSw); go_simp <;> with_reducible rfl)
  try simp only [Act.put, List.setIfInBounds_toArray, List.set_cons_zero, List.set_cons_succ]
  refine wpAnyH_take (i := 5) (oi := ⟨some 29, _, _, _, _, _⟩) (v := ?_) rfl (by kernel_rfl) (by kernel_rfl) (by kernel_rfl) (fun _ _ _ h => h) (Or.inl ⟨by rfl, ?_⟩) (by assumption) ?_
  rotate_left 1
  · (intro w hSw; (try dsimp only at hSw); go_simp <;> with_reducible rfl)
  try simp only [Act.put, List.setIfInBounds_toArray, List.set_cons_zero, List.set_cons_succ]
  refine wpAnyH_take (i := 6) (oi := ⟨some 30, _, _, _, _, _⟩) (v := ?_) rfl (by kernel_rfl) (by kernel_rfl) (by kernel_rfl) (fun _ _ _ h => h) (Or.inl ⟨by rfl, ?_⟩) (by assumption) ?_
  rotate_left 1
  · (intro w hSw; (try dsimp only at hSw); go_simp <;> with_reducible rfl)
  try simp only [Act.put, List.setIfInBounds_toArray, List.set_cons_zero, List.set_cons_succ]
  refine wpAnyH_take (i := 7) (oi := ⟨some 31, _, _, _, _, _⟩) (v := ?_) rfl (by kernel_rfl) (by kernel_rfl) (by kernel_rfl) (fun _ _ _ h => h) (Or.inl ⟨by rfl, ?_⟩) (by assumption) ?_
  rotate_left 1
  · (intro w hSw; (try dsimp only at hSw); go_simp <;> with_reducible rfl)
  try simp only [Act.put, List.setIfInBounds_toArray, List.set_cons_zero, List.set_cons_succ]
  refine wpAnyH_take (i := 8) (oi := ⟨some 32, _, _, _, _, _⟩) (v := ?_) rfl (by kernel_rfl) (by kernel_rfl) (by kernel_rfl) (fun _ _ _ h => h) (Or.inl ⟨by rfl, ?_⟩) (by assumption) ?_
  rotate_left 1
  · (intro w hSw; (try dsimp only at hSw); go_simp <;> with_reducible rfl)
  try simp only [Act.put, List.setIfInBounds_toArray, List.set_cons_zero, List.set_cons_succ]
  refine wpAnyH_take (i := 9) (oi := ⟨some 33, _, _, _, _, _⟩) (v := ?_) rfl (by kernel_rfl) (by kernel_rfl) (by kernel_rfl) (fun _ _ _ h => h) (Or.inl ⟨by rfl, ?_⟩) (by assumption) ?_
  rotate_left 1
  · (intro w hSw; (try dsimp only at hSw); go_simp <;> with_reducible rfl)
  try simp only [Act.put, List.setIfInBounds_toArray, List.set_cons_zero, List.set_cons_succ]
  refine wpAnyH_take (i := 10) (oi := ⟨some 34, _, _, _, _, _⟩) (v := ?_) rfl (by kernel_rfl) (by kernel_rfl) (by kernel_rfl) (fun _ _ _ h => h) (Or.inl ⟨by rfl, ?_⟩) (by assumption) ?_
  rotate_left 1
  · (intro w hSw; (try dsimp only at hSw); go_simp <;> with_reducible rfl)
  try simp only [Act.put, List.setIfInBounds_toArray, List.set_cons_zero, List.set_cons_succ]
  refine wpAnyH_take (i := 12) (oi := ⟨some 36, _, _, _, _, _⟩) (v := ?_) rfl (by kernel_rfl) (by kernel_rfl) (by kernel_rfl) (fun _ _ _ h => h) (Or.inl ⟨by rfl, ?_⟩) (by assumption) ?_
  rotate_left 1
  · (intro w hSw; (try dsimp only at hSw); go_simp <;> with_reducible rfl)
  try simp only [Act.put, List.setIfInBounds_toArray, List.set_cons_zero, List.set_cons_succ]
  refine wpAnyH_ready (rs := [11]) (by kernel_rfl) (by simp) ?_
  refine AllReadyH.cons (o := ⟨some 35, _, _, _, _, _⟩) rfl (fun K hK => ?_) AllReadyH.nil
  rw [if_pos (by rfl)]
  go_simp
  (first | (with_reducible refine (CD.out _ (KY.out _ KX.out)).mono ?_) | (with_reducible refine (CD.out _ (KY.out _ KX.out.drew)).mono ?_))
  rintro e wn ⟨rfl, kn⟩
  (first | (with_reducible have KX := Lib.hid (KX.out.trans kn)) | (with_reducible have KX := Lib.hid (KX.out.drew.trans kn)))
  obtain ⟨s0, s1, s2⟩ := SK.out _ KX.out
  go_simp
  refine hK.out _ _ ?_ (fun hHeld => ?_)
  · exact ⟨s0, s1, s2⟩
  clear hK K
  try simp only [Act.put, List.setIfInBounds_toArray, List.set_cons_zero, List.set_cons_succ]
  refine wpAnyH_ready (rs := [13]) (by kernel_rfl) (by simp) ?_
  refine AllReadyH.cons (o := ⟨some 37, _, _, _, _, _⟩) rfl (fun K hK => ?_) AllReadyH.nil
  rw [if_pos (by rfl)]
  go_simp
  (first | (with_reducible refine (C0.out _ (KY.out _ KX.out)).mono ?_) | (with_reducible refine (C0.out _ (KY.out _ KX.out.drew)).mono ?_))
  rintro e wn ⟨rfl, kn⟩
  (first | (with_reducible have KX := Lib.hid (KX.out.trans kn)) | (with_reducible have KX := Lib.hid (KX.out.drew.trans kn)))
  obtain ⟨s0, s1, s2⟩ := SK.out _ KX.out
  go_simp
  refine hK.out _ _ ?_ (fun hHeld => ?_)
  · exact ⟨s0, s1, s2⟩
  clear hK K
  try simp only [Act.put, List.setIfInBounds_toArray, List.set_cons_zero, List.set_cons_succ]
  refine wpAnyH_take (i := 14) (oi := ⟨some 38, _, _, _, _, _⟩) (v := ?_) rfl (by kernel_rfl) (by kernel_rfl) (by kernel_rfl) (fun _ _ _ h => h) (Or.inl ⟨by rfl, ?_⟩) (by assumption) ?_
  rotate_left 1
  · (intro w hSw; (try dsimp only at hSw); go_simp <;> with_reducible rfl)
  try simp only [Act.put, List.setIfInBounds_toArray, List.set_cons_zero, List.set_cons_succ]
  refine wpAnyH_take (i := 15) (oi := ⟨some 39, _, _, _, _, _⟩) (v := ?_) rfl (by kernel_rfl) (by kernel_rfl) (by kernel_rfl) (fun _ _ _ h => h) (Or.inl ⟨by rfl, ?_⟩) (by assumption) ?_
  rotate_left 1
  · (intro w hSw; (try dsimp only at hSw); go_simp <;> with_reducible rfl)
  try simp only [Act.put, List.setIfInBounds_toArray, List.set_cons_zero, List.set_cons_succ]
  refine wpAnyH_take (i := 16) (oi := ⟨some 40, _, _, _, _, _⟩) (v := ?_) rfl (by kernel_rfl) (by kernel_rfl) (by kernel_rfl) (fun _ _ _ h => h) (Or.inl ⟨by rfl, ?_⟩) (by assumption) ?_
  rotate_left 1
  · (intro w hSw; (try dsimp only at hSw); go_simp <;> with_reducible rfl)
  try simp only [Act.put, List.setIfInBounds_toArray, List.set_cons_zero, List.set_cons_succ]
  refine wpAnyH_take (i := 17) (oi := ⟨some 41, _, _, _, _, _⟩) (v := ?_) rfl (by kernel_rfl) (by kernel_rfl) (by kernel_rfl) (fun _ _ _ h => h) (Or.inl ⟨by rfl, ?_⟩) (by assumption) ?_
  rotate_left 1
  · (intro w hSw; (try dsimp only at hSw); go_simp <;> with_reducible rfl)
  try simp only [Act.put, List.setIfInBounds_toArray, List.set_cons_zero, List.set_cons_succ]
  refine wpAnyH_take (i := 18) (oi := ⟨some 42, _, _, _, _, _⟩) (v := ?_) rfl (by kernel_rfl) (by kernel_rfl) (by kernel_rfl) (fun _ _ _ h => h) (Or.inl ⟨by rfl, ?_⟩) (by assumption) ?_
  rotate_left 1
  · (intro w hSw; (try dsimp only at hSw); go_simp <;> with_reducible rfl)
  try simp only [Act.put, List.setIfInBounds_toArray, List.set_cons_zero, List.set_cons_succ]
  refine wpAnyH_ready (rs := [19]) (by kernel_rfl) (by simp) ?_
  refine AllReadyH.cons (o := ⟨some 43, _, _, _, _, _⟩) rfl (fun K hK => ?_) AllReadyH.nil
  rw [if_pos (by rfl)]
  go_simp
  have KX := Lib.hid (KX.out.alloc #[.int .u8 (b.toNat : Int)] 5)
  obtain ⟨s0, s1, s2⟩ := SK.out _ KX.out
  refine hK.out _ _ ?_ (fun hHeld => ?_)
  · exact ⟨s0, s1, s2⟩
  clear hK K
  try simp only [Act.put, List.setIfInBounds_toArray, List.set_cons_zero, List.set_cons_succ]
  refine wpAnyH_ready (rs := [20]) (by kernel_rfl) (by simp) ?_
  refine AllReadyH.cons (o := ⟨some 44, _, _, _, _, _⟩) rfl (fun K hK => ?_) AllReadyH.nil
  rw [if_pos (by rfl)]
  go_simp
  refine hK.out _ _ ?_ (fun hHeld => ?_)
  · exact ⟨s0, s1, s2⟩
  clear hK K
  try simp only [Act.put, List.setIfInBounds_toArray, List.set_cons_zero, List.set_cons_succ]
  refine wpAnyH_ready (rs := [21]) (by kernel_rfl) (by simp) ?_
  refine AllReadyH.cons (o := ⟨some 45, _, _, _, _, _⟩) rfl (fun K hK => ?_) AllReadyH.nil
  rw [if_pos (by rfl)]
  go_simp
  (first | (with_reducible refine (CB.out _ (KY.out _ KX.out)).mono ?_) | (with_reducible refine (CB.out _ (KY.out _ KX.out.drew)).mono ?_))
  rintro e wn ⟨rfl, kn⟩
  (first | (with_reducible have KX := Lib.hid (KX.out.trans kn)) | (with_reducible have KX := Lib.hid (KX.out.drew.trans kn)))
  obtain ⟨s0, s1, s2⟩ := SK.out _ KX.out
  go_simp
  refine hK.out _ _ ?_ (fun hHeld => ?_)
  · exact ⟨s0, s1, s2⟩
  clear hK K
  try simp only [Act.put, List.setIfInBounds_toArray, List.set_cons_zero, List.set_cons_succ]
  refine wpAnyH_take (i := 22) (oi := ⟨some 46, _, _, _, _, _⟩) (v := ?_) rfl (by kernel_rfl) (by kernel_rfl) (by kernel_rfl) (fun _ _ _ h => h) (Or.inl ⟨by rfl, ?_⟩) (by assumption) ?_
  rotate_left 1
  · (intro w hSw; (try dsimp only at hSw); go_simp <;> with_reducible rfl)
  try simp only [Act.put, List.setIfInBounds_toArray, List.set_cons_zero, List.set_cons_succ]
  refine wpAnyH_take (i := 23) (oi := ⟨some 47, _, _, _, _, _⟩) (v := ?_) rfl (by kernel_rfl) (by kernel_rfl) (by kernel_rfl) (fun _ _ _ h => h) (Or.inl ⟨by rfl, ?_⟩) (by assumption) ?_
  rotate_left 1
  · (intro w hSw; (try dsimp only at hSw); go_simp <;> with_reducible rfl)
  try simp only [Act.put, List.setIfInBounds_toArray, List.set_cons_zero, List.set_cons_succ]
  refine wpAnyH_take (i := 24) (oi := ⟨some 48, _, _, _, _, _⟩) (v := ?_) rfl (by kernel_rfl) (by kernel_rfl) (by kernel_rfl) (fun _ _ _ h => h) (Or.inl ⟨by rfl, ?_⟩) (by assumption) ?_
  rotate_left 1
  · (intro w hSw; (try dsimp only at hSw); go_simp <;> with_reducible rfl)
  try simp only [Act.put, List.setIfInBounds_toArray, List.set_cons_zero, List.set_cons_succ]
  refine wpAnyH_take (i := 25) (oi := ⟨some 49, _, _, _, _, _⟩) (v := ?_) rfl (by kernel_rfl) (by kernel_rfl) (by kernel_rfl) (fun _ _ _ h => h) (Or.inl ⟨by rfl, ?_⟩) (by assumption) ?_
  rotate_left 1
  · (intro w hSw; (try dsimp only at hSw); go_simp <;> with_reducible rfl)
  try simp only [Act.put, List.setIfInBounds_toArray, List.set_cons_zero, List.set_cons_succ]
  refine wpAnyH_take (i := 27) (oi := ⟨some 51, _, _, _, _, _⟩) (v := ?_) rfl (by kernel_rfl) (by kernel_rfl) (by kernel_rfl) (fun _ _ _ h => h) (Or.inl ⟨by rfl, ?_⟩) (by assumption) ?_
  rotate_left 1
  · (intro w hSw; (try dsimp only at hSw); go_simp <;> with_reducible rfl)
  try simp only [Act.put, List.setIfInBounds_toArray, List.set_cons_zero, List.set_cons_succ]
  refine wpAnyH_ready (rs := [26]) (by kernel_rfl) (by simp) ?_
  refine AllReadyH.cons (o := ⟨some 50, _, _, _, _, _⟩) rfl (fun K hK => ?_) AllReadyH.nil
  rw [if_pos (by rfl)]
  go_simp
  (first | (with_reducible refine (CW.out _ (KY.out _ KX.out)).mono ?_) | (with_reducible refine (CW.out _ (KY.out _ KX.out.drew)).mono ?_))
  rintro e wn ⟨rfl, kn⟩
  (first | (with_reducible have KX := Lib.hid (KX.out.trans kn)) | (with_reducible have KX := Lib.hid (KX.out.drew.trans kn)))
  obtain ⟨s0, s1, s2⟩ := SK.out _ KX.out
  go_simp
  refine hK.out _ _ ?_ (fun hHeld => ?_)
  · exact ⟨s0, s1, s2⟩
  clear hK K
  try simp only [Act.put, List.setIfInBounds_toArray, List.set_cons_zero, List.set_cons_succ]
  refine wpAnyH_ready (rs := [28]) (by kernel_rfl) (by simp) ?_
  refine AllReadyH.cons (o := ⟨some 52, _, _, _, _, _⟩) rfl (fun K hK => ?_) AllReadyH.nil
  rw [if_pos (by rfl)]
  go_simp
  (first | (with_reducible refine (CV.out _ (KY.out _ KX.out)).mono ?_) | (with_reducible refine (CV.out _ (KY.out _ KX.out.drew)).mono ?_))
  rintro e wn ⟨rfl, kn⟩
  (first | (with_reducible have KX := Lib.hid (KX.out.trans kn)) | (with_reducible have KX := Lib.hid (KX.out.drew.trans kn)))
  obtain ⟨s0, s1, s2⟩ := SK.out _ KX.out
  go_simp
  refine hK.out _ _ ?_ (fun hHeld => ?_)
  · exact ⟨s0, s1, s2⟩
  clear hK K
  try simp only [Act.put, List.setIfInBounds_toArray, List.set_cons_zero, List.set_cons_succ]
  refine wpAnyH_take (i := 29) (oi := ⟨some 53, _, _, _, _, _⟩) (v := ?_) rfl (by kernel_rfl) (by kernel_rfl) (by kernel_rfl) (fun _ _ _ h => h) (Or.inl ⟨by rfl, ?_⟩) (by assumption) ?_
  rotate_left 1
  · (intro w hSw; (try dsimp only at hSw); go_simp <;> with_reducible rfl)
  try simp only [Act.put, List.setIfInBounds_toArray, List.set_cons_zero, List.set_cons_succ]
  refine wpAnyH_take (i := 30) (oi := ⟨some 54, _, _, _, _, _⟩) (v := ?_) rfl (by kernel_rfl) (by kernel_rfl) (by kernel_rfl) (fun _ _ _ h => h) (Or.inl ⟨by rfl, ?_⟩) (by assumption) ?_
  rotate_left 1
  · (intro w hSw; (try dsimp only at hSw); go_simp <;> with_reducible rfl)
  try simp only [Act.put, List.setIfInBounds_toArray, List.set_cons_zero, List.set_cons_succ]
  refine wpAnyH_take (i := 31) (oi := ⟨some 55, _, _, _, _, _⟩) (v := ?_) rfl (by kernel_rfl) (by kernel_rfl) (by kernel_rfl) (fun _ _ _ h => h) (Or.inl ⟨by rfl, ?_⟩) (by assumption) ?_
  rotate_left 1
  · (intro w hSw; (try dsimp only at hSw); go_simp <;> with_reducible rfl)
  try simp only [Act.put, List.setIfInBounds_toArray, List.set_cons_zero, List.set_cons_succ]
  refine wpAnyH_take (i := 32) (oi := ⟨some 56, _, _, _, _, _⟩) (v := ?_) rfl (by kernel_rfl) (by kernel_rfl) (by kernel_rfl) (fun _ _ _ h => h) (Or.inl ⟨by rfl, ?_⟩) (by assumption) ?_
  rotate_left 1
  · (intro w hSw; (try dsimp only at hSw); go_simp <;> with_reducible rfl)
  try simp only [Act.put, List.setIfInBounds_toArray, List.set_cons_zero, List.set_cons_succ]
  refine wpAnyH_take (i := 34) (oi := ⟨some 58, _, _, _, _, _⟩) (v := ?_) rfl (by kernel_rfl) (by kernel_rfl) (by kernel_rfl) (fun _ _ _ h => h) (Or.inl ⟨by rfl, ?_⟩) (by assumption) ?_
  rotate_left 1
  · (intro w hSw; (try dsimp only at hSw); go_simp <;> with_reducible rfl)
  try simp only [Act.put, List.setIfInBounds_toArray, List.set_cons_zero, List.set_cons_succ]
  refine wpAnyH_ready (rs := [33]) (by kernel_rfl) (by simp) ?_
  refine AllReadyH.cons (o := ⟨some 57, _, _, _, _, _⟩) rfl (fun K hK => ?_) AllReadyH.nil
  rw [if_pos (by rfl)]
  go_simp
  (first | (with_reducible refine (CI.out _ (KY.out _ KX.out)).mono ?_) | (with_reducible refine (CI.out _ (KY.out _ KX.out.drew)).mono ?_))
  rintro e wn ⟨rfl, kn⟩
  (first | (with_reducible have KX := Lib.hid (KX.out.trans kn)) | (with_reducible have KX := Lib.hid (KX.out.drew.trans kn)))
  obtain ⟨s0, s1, s2⟩ := SK.out _ KX.out
  go_simp
  refine hK.out _ _ ?_ (fun hHeld => ?_)
  · exact ⟨s0, s1, s2⟩
  clear hK K
  try simp only [Act.put, List.setIfInBounds_toArray, List.set_cons_zero, List.set_cons_succ]
  refine wpAnyH_ready (rs := [35]) (by kernel_rfl) (by simp) ?_
  refine AllReadyH.cons (o := ⟨some 59, _, _, _, _, _⟩) rfl (fun K hK => ?_) AllReadyH.nil
  rw [if_pos (by rfl)]
  go_simp
  (first | (with_reducible refine (CM.out _ (KY.out _ KX.out)).mono ?_) | (with_reducible refine (CM.out _ (KY.out _ KX.out.drew)).mono ?_))
  rintro e wn ⟨rfl, kn⟩
  (first | (with_reducible have KX := Lib.hid (KX.out.trans kn)) | (with_reducible have KX := Lib.hid (KX.out.drew.trans kn)))
  obtain ⟨s0, s1, s2⟩ := SK.out _ KX.out
  go_simp
  refine hK.out _ _ ?_ (fun hHeld => ?_)
  · exact ⟨s0, s1, s2⟩
  clear hK K
  try simp only [Act.put, List.setIfInBounds_toArray, List.set_cons_zero, List.set_cons_succ]
  refine wpAnyH_take (i := 36) (oi := ⟨some 60, _, _, _, _, _⟩) (v := ?_) rfl (by kernel_rfl) (by kernel_rfl) (by kernel_rfl) (fun _ _ _ h => h) (Or.inl ⟨by rfl, ?_⟩) (by assumption) ?_
  rotate_left 1
  · (intro w hSw; (try dsimp only at hSw); go_simp <;> with_reducible rfl)
  try simp only [Act.put, List.setIfInBounds_toArray, List.set_cons_zero, List.set_cons_succ]
  refine wpAnyH_take (i := 37) (oi := ⟨some 61, _, _, _, _, _⟩) (v := ?_) rfl (by kernel_rfl) (by kernel_rfl) (by kernel_rfl) (fun _ _ _ h => h) (Or.inl ⟨by rfl, ?_⟩) (by assumption) ?_
  rotate_left 1
  · (intro w hSw; (try dsimp only at hSw); go_simp <;> with_reducible rfl)
  try simp only [Act.put, List.setIfInBounds_toArray, List.set_cons_zero, List.set_cons_succ]
  refine wpAnyH_take (i := 38) (oi := ⟨some 4, _, _, _, _, _⟩) (v := ?_) rfl (by kernel_rfl) (by kernel_rfl) (by kernel_rfl) (fun _ _ _ h => h) (Or.inl ⟨by rfl, ?_⟩) (by assumption) ?_
  rotate_left 1
  · (intro w hSw; (try dsimp only at hSw); go_simp <;> with_reducible rfl)
  try simp only [Act.put, List.setIfInBounds_toArray, List.set_cons_zero, List.set_cons_succ]
  refine wpAnyH_done (by kernel_rfl) ?_ _
  clear hHeld
  go_wp2_with fail
  go_ret
  exact ⟨rfl, KW.out.trans KX.out⟩

set_option maxRecDepth 100000 in
set_option maxHeartbeats 16000000 in
theorem standard_walk2 (n : Int) (b : UInt8) (hn : n % 65536 % 3 = 2) (w : World) :
    Calls Try.prog 8 #[.int .i64 n, .int .u8 b.toNat] w fun e w' => e = .returned (.bool true) ∧ Kept w w' := by
  have AW := Lib.hid (awake13_any w)
  obtain ⟨g1, g2, g3, g4⟩ := Mt.good_facts Mt.good_all.2.2
  have hbt := b.toNat_lt
  obtain ⟨z, hz⟩ : ∃ z : Int, z = n % 65536 := ⟨_, rfl⟩
  have hb : bits .and .i64 n 65535 = z := by rw [and_65535, hz]
  have z0 : 0 ≤ z := by omega
  have z1 : z % 3 = 2 := by rw [hz]; exact hn
  obtain ⟨j, hj⟩ : ∃ j : Nat, j = b.toNat % 10 := ⟨_, rfl⟩
  have hj1 : j < 10 := by omega
  have hjz : (b.toNat : Int) % 10 = (j : Int) := by omega
  obtain ⟨vD, hvD⟩ : ∃ v, v = Mt.cour.one 48 := ⟨_, rfl⟩
  obtain ⟨vB, hvB⟩ : ∃ v, v = Mt.cour.one b.toNat := ⟨_, rfl⟩
  obtain ⟨vW, hvW⟩ : ∃ v, v = Mt.cour.one 87 := ⟨_, rfl⟩
  obtain ⟨vV, hvV⟩ : ∃ v, v = Mt.cour.one 119 := ⟨_, rfl⟩
  obtain ⟨vI, hvI⟩ : ∃ v, v = Mt.cour.one 105 := ⟨_, rfl⟩
  obtain ⟨vM, hvM⟩ : ∃ v, v = Mt.cour.one 109 := ⟨_, rfl⟩
  have i1 : 0 < vB := by rw [hvB]; exact g2 _ hbt
  have i2 : vV ≤ vW := by rw [hvV, hvW]; exact g3
  have i3 : vI ≤ vM := by rw [hvI, hvM]; exact g4
  have i1' : (0 : Int) < (vB : Int) := by omega
  have i2' : (vV : Int) ≤ (vW : Int) := by omega
  have i3' : (vI : Int) ≤ (vM : Int) := by omega
  have i4' : ((vD : Int) == (vD : Int)) = true := by simp
  obtain ⟨X, hX⟩ : ∃ X, X = (⟨#[48, 49, 50, 51, 52, 53, 54, 55, 56, 57]⟩ : ByteArray).extract j (j + 1) := ⟨_, rfl⟩
  have hXw : Mt.cour.width X.data.toList = vD := by
    rw [hX, Mt.digit_at j hj1, hvD, ← g1 j hj1]
    show Mt.cour.one (48 + j).toUInt8.toNat + 0 = _
    rw [Mt.u8_lit _ (by omega)]; rfl
  have hXl : X.size ≤ 4294967296 := by rw [Lib.size_eq, hX, Mt.digit_at j hj1]; simp
  have WB := Lib.hid (show Mt.cour.width (⟨#[b]⟩ : ByteArray).data.toList = vB by rw [hvB]; rfl)
  have W0 := Lib.hid (show Mt.cour.width (⟨#[48]⟩ : ByteArray).data.toList = vD by rw [hvD]; rfl)
  have WW := Lib.hid (show Mt.cour.width (⟨#[87]⟩ : ByteArray).data.toList = vW by rw [hvW]; rfl)
  have WV := Lib.hid (show Mt.cour.width (⟨#[119]⟩ : ByteArray).data.toList = vV by rw [hvV]; rfl)
  have WI := Lib.hid (show Mt.cour.width (⟨#[105]⟩ : ByteArray).data.toList = vI by rw [hvI]; rfl)
  have WM := Lib.hid (show Mt.cour.width (⟨#[109]⟩ : ByteArray).data.toList = vM by rw [hvM]; rfl)
  have HXW := Lib.hid hXw
  have CS := Lib.hid (fun wx => Standard_cour wx)
  have hcv := fun (W : World) => (show (convert 45 9 (.slice (some ⟨W.heap.size, 0, none⟩) 1 1)).run Try.prog (W.alloc (.cells #[.int .u8 b.toNat] 5)) = .ok (.string ⟨#[b]⟩) (W.alloc (.cells #[.int .u8 b.toNat] 5)) from (MkB.string (MkB.new W [b] #[.int .u8 b.toNat] rfl (0, 0))))
  have hXe := hX.symm
  have hsl := fun (W : World) => (show (Instr.slice 9 (.string (⟨#[48, 49, 50, 51, 52, 53, 54, 55, 56, 57]⟩ : ByteArray)) (some (.int .i64 (j : Int))) (some (.int .i64 ((j : Int) + 1))) none).run Try.prog W = .ok (.string X) W from by rw [hX]; exact Mt.slice_one _ j (by simp [ByteArray.size]; omega) W)
  have hw1 : IntKind.i64.wrap ((j : Int) + 1) = (j : Int) + 1 := by rw [IntKind.wrap_i64]; omega
  clear hz hn hj g1 g2 g3 g4 hvD hvB hvW hvV hvI hvM hX hXw
  go_enter Try.func8, Try.ntmps8
  go_wp2_with fail
  (with_reducible refine AW.out.mono ?_)
  rintro e w1 ⟨rfl, hk1⟩
  have K1 := Lib.hid hk1
  clear hk1
  go_wp2_with fail
  (with_reducible refine (CS.out _).mono ?_)
  rintro e w2 ⟨p, c, rfl, hnu, hk2⟩
  have K2 := Lib.hid (show Kept w w2 from ((K1.out.alloc _ _)).trans hk2)
  clear hk2
  unfold Mt.fontV
  obtain ⟨L, hL⟩ : ∃ L, L = Mt.cour.ws.length := ⟨_, rfl⟩
  have NU := Lib.hid (fun wx (k : Kept w2 wx) => (hnu.keep (Nat.le_refl _) k).up (Below.size k))
  have CX := Lib.hid (fun (s : ByteArray) (v : Nat) (hv : Mt.cour.width s.data.toList = v) (hl : s.size ≤ 4294967296) wx (k : Kept w2 wx) => (show Calls Try.prog 13 #[.agg #[.int .i64 32, .slice p L c, .int .i64 600], .string s] wx fun e w' => e = .returned (.int .i64 v) ∧ Kept wx w' from Width_of Mt.cour p c s v hv wx (NU.out wx k) Mt.cour_sane hl L 32 600 hL rfl rfl))
  have CD := Lib.hid (CX.out X vD HXW.out hXl)
  have C0 := Lib.hid (CX.out ⟨#[48]⟩ vD W0.out (by decide))
  have CB := Lib.hid (CX.out ⟨#[b]⟩ vB WB.out (by show 1 ≤ _; decide))
  have CW := Lib.hid (CX.out ⟨#[87]⟩ vW WW.out (by decide))
  have CV := Lib.hid (CX.out ⟨#[119]⟩ vV WV.out (by decide))
  have CI := Lib.hid (CX.out ⟨#[105]⟩ vI WI.out (by decide))
  have CM := Lib.hid (CX.out ⟨#[109]⟩ vM WM.out (by decide))
  rw [← hL, show ((Mt.cour.first : Nat) : Int) = 32 from rfl, show ((Mt.cour.other : Nat) : Int) = 600 from rfl]
  clear hnu hL hXl
  go_upto_region 5 with fail
  obtain ⟨B, hB⟩ : ∃ B, B = w2.heap.size := ⟨_, rfl⟩
  have SK := Lib.hid (show ∀ w', Kept (w2.alloc (.cells #[.int .i64 32, .slice p L c, .int .i64 600] 28)) w' → (w'.cell? ⟨B, 0, none⟩ = some (.int .i64 32) ∧ w'.cell? ⟨B, 1, none⟩ = some (.slice p L c) ∧ w'.cell? ⟨B, 2, none⟩ = some (.int .i64 600)) from fun w' k => by
    have bb := (Blk.fresh w2 #[.int .i64 32, .slice p L c, .int .i64 600] 28).kept k
    rw [hB]
    exact ⟨bb.cell 0, bb.cell 1, bb.cell 2⟩)
  have KX := Lib.hid (Kept.refl (w2.alloc (.cells #[.int .i64 32, .slice p L c, .int .i64 600] 28)))
  have KW := Lib.hid (show Kept w (w2.alloc (.cells #[.int .i64 32, .slice p L c, .int .i64 600] 28)) from K2.out.alloc _ _)
  have KY := Lib.hid (fun wx (k : Kept (w2.alloc (.cells #[.int .i64 32, .slice p L c, .int .i64 600] 28)) wx) => (((Kept.refl w2).alloc _ _).trans k : Kept w2 wx))
  obtain ⟨s0, s1, s2⟩ := SK.out _ KX.out
  generalize hG : w2.alloc (.cells #[.int .i64 32, .slice p L c, .int .i64 600] 28) = G at SK KX KW KY s0 s1 s2 ⊢
  rw [← hB]
  clear hG hB
  refine wp_region_held_drew (S := fun w' => (w'.cell? ⟨B, 0, none⟩ = some (.int .i64 32) ∧ w'.cell? ⟨B, 1, none⟩ = some (.slice p L c) ∧ w'.cell? ⟨B, 2, none⟩ = some (.int .i64 600))) (by kernel_rfl) ?_ (fun hHeld => ?_)
  · exact ⟨s0, s1, s2⟩
  refine wpAnyH_take (i := 0) (oi := ⟨some 24, _, _, _, _, _⟩) (v := ?_) rfl (by kernel_rfl) (by kernel_rfl) (by kernel_rfl) (fun _ _ _ h => h) (Or.inl ⟨by rfl, ?_⟩) (by assumption) ?_
  rotate_left 1
  · (intro w hSw; (try dsimp only at hSw); go_simp <;> with_reducible rfl)
  try simp only [Act.put, List.setIfInBounds_toArray, List.set_cons_zero, List.set_cons_succ]
  refine wpAnyH_take (i := 1) (oi := ⟨some 25, _, _, _, _, _⟩) (v := ?_) rfl (by kernel_rfl) (by kernel_rfl) (by kernel_rfl) (fun _ _ _ h => h) (Or.inl ⟨by rfl, ?_⟩) (by assumption) ?_
  rotate_left 1
  · (intro w hSw; (try dsimp only at hSw); go_simp <;> with_reducible rfl)
  try simp only [Act.put, List.setIfInBounds_toArray, List.set_cons_zero, List.set_cons_succ]
  refine wpAnyH_take (i := 2) (oi := ⟨some 26, _, _, _, _, _⟩) (v := ?_) rfl (by kernel_rfl) (by kernel_rfl) (by kernel_rfl) (fun _ _ _ h => h) (Or.inl ⟨by rfl, ?_⟩) (by assumption) ?_
  rotate_left 1
  · (intro w hSw; (try dsimp only at hSw); go_simp <;> with_reducible rfl)
  try simp only [Act.put, List.setIfInBounds_toArray, List.set_cons_zero, List.set_cons_succ]
  refine wpAnyH_take (i := 3) (oi := ⟨some 27, _, _, _, _, _⟩) (v := ?_) rfl (by kernel_rfl) (by kernel_rfl) (by kernel_rfl) (fun _ _ _ h => h) (Or.inl ⟨by rfl, ?_⟩) (by assumption) ?_
  rotate_left 1
  · (intro w hSw; (try dsimp only at hSw); go_simp <;> with_reducible rfl)
  try simp only [Act.put, List.setIfInBounds_toArray, List.set_cons_zero, List.set_cons_succ]
  refine wpAnyH_take (i := 4) (oi := ⟨some 28, _, _, _, _, _⟩) (v := ?_) rfl (by kernel_rfl) (by kernel_rfl) (by kernel_rfl) (fun _ _ _ h => h) (Or.inl ⟨by rfl, ?_⟩) (by assumption) ?_
  rotate_left 1
  · (intro w hSw; (try dsimp only at hSw); go_simp <;> with_reducible rfl)
  try simp only [Act.put, List.setIfInBounds_toArray, List.set_cons_zero, List.set_cons_succ]
  refine wpAnyH_take (i := 5) (oi := ⟨some 29, _, _, _, _, _⟩) (v := ?_) rfl (by kernel_rfl) (by kernel_rfl) (by kernel_rfl) (fun _ _ _ h => h) (Or.inl ⟨by rfl, ?_⟩) (by assumption) ?_
  rotate_left 1
  · (intro w hSw; (try dsimp only at hSw); go_simp <;> with_reducible rfl)
  try simp only [Act.put, List.setIfInBounds_toArray, List.set_cons_zero, List.set_cons_succ]
  refine wpAnyH_take (i := 6) (oi := ⟨some 30, _, _, _, _, _⟩) (v := ?_) rfl (by kernel_rfl) (by kernel_rfl) (by kernel_rfl) (fun _ _ _ h => h) (Or.inl ⟨by rfl, ?_⟩) (by assumption) ?_
  rotate_left 1
  · (intro w hSw; (try dsimp only at hSw); go_simp <;> with_reducible rfl)
  try simp only [Act.put, List.setIfInBounds_toArray, List.set_cons_zero, List.set_cons_succ]
  refine wpAnyH_take (i := 7) (oi := ⟨some 31, _, _, _, _, _⟩) (v := ?_) rfl (by kernel_rfl) (by kernel_rfl) (by kernel_rfl) (fun _ _ _ h => h) (Or.inl ⟨by rfl, ?_⟩) (by assumption) ?_
  rotate_left 1
  · (intro w hSw; (try dsimp only at hSw); go_simp <;> with_reducible rfl)
  try simp only [Act.put, List.setIfInBounds_toArray, List.set_cons_zero, List.set_cons_succ]
  refine wpAnyH_take (i := 8) (oi := ⟨some 32, _, _, _, _, _⟩) (v := ?_) rfl (by kernel_rfl) (by kernel_rfl) (by kernel_rfl) (fun _ _ _ h => h) (Or.inl ⟨by rfl, ?_⟩) (by assumption) ?_
  rotate_left 1
  · (intro w hSw; (try dsimp only at hSw); go_simp <;> with_reducible rfl)
  try simp only [Act.put, List.setIfInBounds_toArray, List.set_cons_zero, List.set_cons_succ]
  refine wpAnyH_take (i := 9) (oi := ⟨some 33, _, _, _, _, _⟩) (v := ?_) rfl (by kernel_rfl) (by kernel_rfl) (by kernel_rfl) (fun _ _ _ h => h) (Or.inl ⟨by rfl, ?_⟩) (by assumption) ?_
  rotate_left 1
  · (intro w hSw; (try dsimp only at hSw); go_simp <;> with_reducible rfl)
  try simp only [Act.put, List.setIfInBounds_toArray, List.set_cons_zero, List.set_cons_succ]
  refine wpAnyH_take (i := 10) (oi := ⟨some 34, _, _, _, _, _⟩) (v := ?_) rfl (by kernel_rfl) (by kernel_rfl) (by kernel_rfl) (fun _ _ _ h => h) (Or.inl ⟨by rfl, ?_⟩) (by assumption) ?_
  rotate_left 1
  · (intro w hSw; (try dsimp only at hSw); go_simp <;> with_reducible rfl)
  try simp only [Act.put, List.setIfInBounds_toArray, List.set_cons_zero, List.set_cons_succ]
  refine wpAnyH_take (i := 12) (oi := ⟨some 36, _, _, _, _, _⟩) (v := ?_) rfl (by kernel_rfl) (by kernel_rfl) (by kernel_rfl) (fun _ _ _ h => h) (Or.inl ⟨by rfl, ?_⟩) (by assumption) ?_
  rotate_left 1
  · (intro w hSw; (try dsimp only at hSw); go_simp <;> with_reducible rfl)
  try simp only [Act.put, List.setIfInBounds_toArray, List.set_cons_zero, List.set_cons_succ]
  refine wpAnyH_ready (rs := [11]) (by kernel_rfl) (by simp) ?_
  refine AllReadyH.cons (o := ⟨some 35, _, _, _, _, _⟩) rfl (fun K hK => ?_) AllReadyH.nil
  rw [if_pos (by rfl)]
  go_simp
  (first | (with_reducible refine (CD.out _ (KY.out _ KX.out)).mono ?_) | (with_reducible refine (CD.out _ (KY.out _ KX.out.drew)).mono ?_))
  rintro e wn ⟨rfl, kn⟩
  (first | (with_reducible have KX := Lib.hid (KX.out.trans kn)) | (with_reducible have KX := Lib.hid (KX.out.drew.trans kn)))
  obtain ⟨s0, s1, s2⟩ := SK.out _ KX.out
  go_simp
  refine hK.out _ _ ?_ (fun hHeld => ?_)
  · exact ⟨s0, s1, s2⟩
  clear hK K
  try simp only [Act.put, List.setIfInBounds_toArray, List.set_cons_zero, List.set_cons_succ]
  refine wpAnyH_ready (rs := [13]) (by kernel_rfl) (by simp) ?_
  refine AllReadyH.cons (o := ⟨some 37, _, _, _, _, _⟩) rfl (fun K hK => ?_) AllReadyH.nil
  rw [if_pos (by rfl)]
  go_simp
  (first | (with_reducible refine (C0.out _ (KY.out _ KX.out)).mono ?_) | (with_reducible refine (C0.out _ (KY.out _ KX.out.drew)).mono ?_))
  rintro e wn ⟨rfl, kn⟩
  (first | (with_reducible have KX := Lib.hid (KX.out.trans kn)) | (with_reducible have KX := Lib.hid (KX.out.drew.trans kn)))
  obtain ⟨s0, s1, s2⟩ := SK.out _ KX.out
  go_simp
  refine hK.out _ _ ?_ (fun hHeld => ?_)
  · exact ⟨s0, s1, s2⟩
  clear hK K
  try simp only [Act.put, List.setIfInBounds_toArray, List.set_cons_zero, List.set_cons_succ]
  refine wpAnyH_take (i := 14) (oi := ⟨some 38, _, _, _, _, _⟩) (v := ?_) rfl (by kernel_rfl) (by kernel_rfl) (by kernel_rfl) (fun _ _ _ h => h) (Or.inl ⟨by rfl, ?_⟩) (by assumption) ?_
  rotate_left 1
  · (intro w hSw; (try dsimp only at hSw); go_simp <;> with_reducible rfl)
  try simp only [Act.put, List.setIfInBounds_toArray, List.set_cons_zero, List.set_cons_succ]
  refine wpAnyH_take (i := 15) (oi := ⟨some 39, _, _, _, _, _⟩) (v := ?_) rfl (by kernel_rfl) (by kernel_rfl) (by kernel_rfl) (fun _ _ _ h => h) (Or.inl ⟨by rfl, ?_⟩) (by assumption) ?_
  rotate_left 1
  · (intro w hSw; (try dsimp only at hSw); go_simp <;> with_reducible rfl)
  try simp only [Act.put, List.setIfInBounds_toArray, List.set_cons_zero, List.set_cons_succ]
  refine wpAnyH_take (i := 16) (oi := ⟨some 40, _, _, _, _, _⟩) (v := ?_) rfl (by kernel_rfl) (by kernel_rfl) (by kernel_rfl) (fun _ _ _ h => h) (Or.inl ⟨by rfl, ?_⟩) (by assumption) ?_
  rotate_left 1
  · (intro w hSw; (try dsimp only at hSw); go_simp <;> with_reducible rfl)
  try simp only [Act.put, List.setIfInBounds_toArray, List.set_cons_zero, List.set_cons_succ]
  refine wpAnyH_take (i := 17) (oi := ⟨some 41, _, _, _, _, _⟩) (v := ?_) rfl (by kernel_rfl) (by kernel_rfl) (by kernel_rfl) (fun _ _ _ h => h) (Or.inl ⟨by rfl, ?_⟩) (by assumption) ?_
  rotate_left 1
  · (intro w hSw; (try dsimp only at hSw); go_simp <;> with_reducible rfl)
  try simp only [Act.put, List.setIfInBounds_toArray, List.set_cons_zero, List.set_cons_succ]
  refine wpAnyH_take (i := 18) (oi := ⟨some 42, _, _, _, _, _⟩) (v := ?_) rfl (by kernel_rfl) (by kernel_rfl) (by kernel_rfl) (fun _ _ _ h => h) (Or.inl ⟨by rfl, ?_⟩) (by assumption) ?_
  rotate_left 1
  · (intro w hSw; (try dsimp only at hSw); go_simp <;> with_reducible rfl)
  try simp only [Act.put, List.setIfInBounds_toArray, List.set_cons_zero, List.set_cons_succ]
  refine wpAnyH_ready (rs := [19]) (by kernel_rfl) (by simp) ?_
  refine AllReadyH.cons (o := ⟨some 43, _, _, _, _, _⟩) rfl (fun K hK => ?_) AllReadyH.nil
  rw [if_pos (by rfl)]
  go_simp
  have KX := Lib.hid (KX.out.alloc #[.int .u8 (b.toNat : Int)] 5)
  obtain ⟨s0, s1, s2⟩ := SK.out _ KX.out
  refine hK.out _ _ ?_ (fun hHeld => ?_)
  · exact ⟨s0, s1, s2⟩
  clear hK K
  try simp only [Act.put, List.setIfInBounds_toArray, List.set_cons_zero, List.set_cons_succ]
  refine wpAnyH_ready (rs := [20]) (by kernel_rfl) (by simp) ?_
  refine AllReadyH.cons (o := ⟨some 44, _, _, _, _, _⟩) rfl (fun K hK => ?_) AllReadyH.nil
  rw [if_pos (by rfl)]
  go_simp
  refine hK.out _ _ ?_ (fun hHeld => ?_)
  · exact ⟨s0, s1, s2⟩
  clear hK K
  try simp only [Act.put, List.setIfInBounds_toArray, List.set_cons_zero, List.set_cons_succ]
  refine wpAnyH_ready (rs := [21]) (by kernel_rfl) (by simp) ?_
  refine AllReadyH.cons (o := ⟨some 45, _, _, _, _, _⟩) rfl (fun K hK => ?_) AllReadyH.nil
  rw [if_pos (by rfl)]
  go_simp
  (first | (with_reducible refine (CB.out _ (KY.out _ KX.out)).mono ?_) | (with_reducible refine (CB.out _ (KY.out _ KX.out.drew)).mono ?_))
  rintro e wn ⟨rfl, kn⟩
  (first | (with_reducible have KX := Lib.hid (KX.out.trans kn)) | (with_reducible have KX := Lib.hid (KX.out.drew.trans kn)))
  obtain ⟨s0, s1, s2⟩ := SK.out _ KX.out
  go_simp
  refine hK.out _ _ ?_ (fun hHeld => ?_)
  · exact ⟨s0, s1, s2⟩
  clear hK K
  try simp only [Act.put, List.setIfInBounds_toArray, List.set_cons_zero, List.set_cons_succ]
  refine wpAnyH_take (i := 22) (oi := ⟨some 46, _, _, _, _, _⟩) (v := ?_) rfl (by kernel_rfl) (by kernel_rfl) (by kernel_rfl) (fun _ _ _ h => h) (Or.inl ⟨by rfl, ?_⟩) (by assumption) ?_
  rotate_left 1
  · (intro w hSw; (try dsimp only at hSw); go_simp <;> with_reducible rfl)
  try simp only [Act.put, List.setIfInBounds_toArray, List.set_cons_zero, List.set_cons_succ]
  refine wpAnyH_take (i := 23) (oi := ⟨some 47, _, _, _, _, _⟩) (v := ?_) rfl (by kernel_rfl) (by kernel_rfl) (by kernel_rfl) (fun _ _ _ h => h) (Or.inl ⟨by rfl, ?_⟩) (by assumption) ?_
  rotate_left 1
  · (intro w hSw; (try dsimp only at hSw); go_simp <;> with_reducible rfl)
  try simp only [Act.put, List.setIfInBounds_toArray, List.set_cons_zero, List.set_cons_succ]
  refine wpAnyH_take (i := 24) (oi := ⟨some 48, _, _, _, _, _⟩) (v := ?_) rfl (by kernel_rfl) (by kernel_rfl) (by kernel_rfl) (fun _ _ _ h => h) (Or.inl ⟨by rfl, ?_⟩) (by assumption) ?_
  rotate_left 1
  · (intro w hSw; (try dsimp only at hSw); go_simp <;> with_reducible rfl)
  try simp only [Act.put, List.setIfInBounds_toArray, List.set_cons_zero, List.set_cons_succ]
  refine wpAnyH_take (i := 25) (oi := ⟨some 49, _, _, _, _, _⟩) (v := ?_) rfl (by kernel_rfl) (by kernel_rfl) (by kernel_rfl) (fun _ _ _ h => h) (Or.inl ⟨by rfl, ?_⟩) (by assumption) ?_
  rotate_left 1
  · (intro w hSw; (try dsimp only at hSw); go_simp <;> with_reducible rfl)
  try simp only [Act.put, List.setIfInBounds_toArray, List.set_cons_zero, List.set_cons_succ]
  refine wpAnyH_take (i := 27) (oi := ⟨some 51, _, _, _, _, _⟩) (v := ?_) rfl (by kernel_rfl) (by kernel_rfl) (by kernel_rfl) (fun _ _ _ h => h) (Or.inl ⟨by rfl, ?_⟩) (by assumption) ?_
  rotate_left 1
  · (intro w hSw; (try dsimp only at hSw); go_simp <;> with_reducible rfl)
  try simp only [Act.put, List.setIfInBounds_toArray, List.set_cons_zero, List.set_cons_succ]
  refine wpAnyH_ready (rs := [26]) (by kernel_rfl) (by simp) ?_
  refine AllReadyH.cons (o := ⟨some 50, _, _, _, _, _⟩) rfl (fun K hK => ?_) AllReadyH.nil
  rw [if_pos (by rfl)]
  go_simp
  (first | (with_reducible refine (CW.out _ (KY.out _ KX.out)).mono ?_) | (with_reducible refine (CW.out _ (KY.out _ KX.out.drew)).mono ?_))
  rintro e wn ⟨rfl, kn⟩
  (first | (with_reducible have KX := Lib.hid (KX.out.trans kn)) | (with_reducible have KX := Lib.hid (KX.out.drew.trans kn)))
  obtain ⟨s0, s1, s2⟩ := SK.out _ KX.out
  go_simp
  refine hK.out _ _ ?_ (fun hHeld => ?_)
  · exact ⟨s0, s1, s2⟩
  clear hK K
  try simp only [Act.put, List.setIfInBounds_toArray, List.set_cons_zero, List.set_cons_succ]
  refine wpAnyH_ready (rs := [28]) (by kernel_rfl) (by simp) ?_
  refine AllReadyH.cons (o := ⟨some 52, _, _, _, _, _⟩) rfl (fun K hK => ?_) AllReadyH.nil
  rw [if_pos (by rfl)]
  go_simp
  (first | (with_reducible refine (CV.out _ (KY.out _ KX.out)).mono ?_) | (with_reducible refine (CV.out _ (KY.out _ KX.out.drew)).mono ?_))
  rintro e wn ⟨rfl, kn⟩
  (first | (with_reducible have KX := Lib.hid (KX.out.trans kn)) | (with_reducible have KX := Lib.hid (KX.out.drew.trans kn)))
  obtain ⟨s0, s1, s2⟩ := SK.out _ KX.out
  go_simp
  refine hK.out _ _ ?_ (fun hHeld => ?_)
  · exact ⟨s0, s1, s2⟩
  clear hK K
  try simp only [Act.put, List.setIfInBounds_toArray, List.set_cons_zero, List.set_cons_succ]
  refine wpAnyH_take (i := 29) (oi := ⟨some 53, _, _, _, _, _⟩) (v := ?_) rfl (by kernel_rfl) (by kernel_rfl) (by kernel_rfl) (fun _ _ _ h => h) (Or.inl ⟨by rfl, ?_⟩) (by assumption) ?_
  rotate_left 1
  · (intro w hSw; (try dsimp only at hSw); go_simp <;> with_reducible rfl)
  try simp only [Act.put, List.setIfInBounds_toArray, List.set_cons_zero, List.set_cons_succ]
  refine wpAnyH_take (i := 30) (oi := ⟨some 54, _, _, _, _, _⟩) (v := ?_) rfl (by kernel_rfl) (by kernel_rfl) (by kernel_rfl) (fun _ _ _ h => h) (Or.inl ⟨by rfl, ?_⟩) (by assumption) ?_
  rotate_left 1
  · (intro w hSw; (try dsimp only at hSw); go_simp <;> with_reducible rfl)
  try simp only [Act.put, List.setIfInBounds_toArray, List.set_cons_zero, List.set_cons_succ]
  refine wpAnyH_take (i := 31) (oi := ⟨some 55, _, _, _, _, _⟩) (v := ?_) rfl (by kernel_rfl) (by kernel_rfl) (by kernel_rfl) (fun _ _ _ h => h) (Or.inl ⟨by rfl, ?_⟩) (by assumption) ?_
  rotate_left 1
  · (intro w hSw; (try dsimp only at hSw); go_simp <;> with_reducible rfl)
  try simp only [Act.put, List.setIfInBounds_toArray, List.set_cons_zero, List.set_cons_succ]
  refine wpAnyH_take (i := 32) (oi := ⟨some 56, _, _, _, _, _⟩) (v := ?_) rfl (by kernel_rfl) (by kernel_rfl) (by kernel_rfl) (fun _ _ _ h => h) (Or.inl ⟨by rfl, ?_⟩) (by assumption) ?_
  rotate_left 1
  · (intro w hSw; (try dsimp only at hSw); go_simp <;> with_reducible rfl)
  try simp only [Act.put, List.setIfInBounds_toArray, List.set_cons_zero, List.set_cons_succ]
  refine wpAnyH_take (i := 34) (oi := ⟨some 58, _, _, _, _, _⟩) (v := ?_) rfl (by kernel_rfl) (by kernel_rfl) (by kernel_rfl) (fun _ _ _ h => h) (Or.inl ⟨by rfl, ?_⟩) (by assumption) ?_
  rotate_left 1
  · (intro w hSw; (try dsimp only at hSw); go_simp <;> with_reducible rfl)
  try simp only [Act.put, List.setIfInBounds_toArray, List.set_cons_zero, List.set_cons_succ]
  refine wpAnyH_ready (rs := [33]) (by kernel_rfl) (by simp) ?_
  refine AllReadyH.cons (o := ⟨some 57, _, _, _, _, _⟩) rfl (fun K hK => ?_) AllReadyH.nil
  rw [if_pos (by rfl)]
  go_simp
  (first | (with_reducible refine (CI.out _ (KY.out _ KX.out)).mono ?_) | (with_reducible refine (CI.out _ (KY.out _ KX.out.drew)).mono ?_))
  rintro e wn ⟨rfl, kn⟩
  (first | (with_reducible have KX := Lib.hid (KX.out.trans kn)) | (with_reducible have KX := Lib.hid (KX.out.drew.trans kn)))
  obtain ⟨s0, s1, s2⟩ := SK.out _ KX.out
  go_simp
  refine hK.out _ _ ?_ (fun hHeld => ?_)
  · exact ⟨s0, s1, s2⟩
  clear hK K
  try simp only [Act.put, List.setIfInBounds_toArray, List.set_cons_zero, List.set_cons_succ]
  refine wpAnyH_ready (rs := [35]) (by kernel_rfl) (by simp) ?_
  refine AllReadyH.cons (o := ⟨some 59, _, _, _, _, _⟩) rfl (fun K hK => ?_) AllReadyH.nil
  rw [if_pos (by rfl)]
  go_simp
  (first | (with_reducible refine (CM.out _ (KY.out _ KX.out)).mono ?_) | (with_reducible refine (CM.out _ (KY.out _ KX.out.drew)).mono ?_))
  rintro e wn ⟨rfl, kn⟩
  (first | (with_reducible have KX := Lib.hid (KX.out.trans kn)) | (with_reducible have KX := Lib.hid (KX.out.drew.trans kn)))
  obtain ⟨s0, s1, s2⟩ := SK.out _ KX.out
  go_simp
  refine hK.out _ _ ?_ (fun hHeld => ?_)
  · exact ⟨s0, s1, s2⟩
  clear hK K
  try simp only [Act.put, List.setIfInBounds_toArray, List.set_cons_zero, List.set_cons_succ]
  refine wpAnyH_take (i := 36) (oi := ⟨some 60, _, _, _, _, _⟩) (v := ?_) rfl (by kernel_rfl) (by kernel_rfl) (by kernel_rfl) (fun _ _ _ h => h) (Or.inl ⟨by rfl, ?_⟩) (by assumption) ?_
  rotate_left 1
  · (intro w hSw; (try dsimp only at hSw); go_simp <;> with_reducible rfl)
  try simp only [Act.put, List.setIfInBounds_toArray, List.set_cons_zero, List.set_cons_succ]
  refine wpAnyH_take (i := 37) (oi := ⟨some 61, _, _, _, _, _⟩) (v := ?_) rfl (by kernel_rfl) (by kernel_rfl) (by kernel_rfl) (fun _ _ _ h => h) (Or.inl ⟨by rfl, ?_⟩) (by assumption) ?_
  rotate_left 1
  · (intro w hSw; (try dsimp only at hSw); go_simp <;> with_reducible rfl)
  try simp only [Act.put, List.setIfInBounds_toArray, List.set_cons_zero, List.set_cons_succ]
  refine wpAnyH_take (i := 38) (oi := ⟨some 4, _, _, _, _, _⟩) (v := ?_) rfl (by kernel_rfl) (by kernel_rfl) (by kernel_rfl) (fun _ _ _ h => h) (Or.inl ⟨by rfl, ?_⟩) (by assumption) ?_
  rotate_left 1
  · (intro w hSw; (try dsimp only at hSw); go_simp <;> with_reducible rfl)
  try simp only [Act.put, List.setIfInBounds_toArray, List.set_cons_zero, List.set_cons_succ]
  refine wpAnyH_done (by kernel_rfl) ?_ _
  clear hHeld
  go_wp2_with fail
  go_ret
  exact ⟨rfl, KW.out.trans KX.out⟩

theorem MetricStandard_walk (n b : Int) (w : World) (h0 : 0 ≤ b) (h1 : b ≤ 255) :
    Calls Try.prog 8 #[.int .i64 n, .int .u8 b] w fun e w' => e = .returned (.bool true) ∧ Kept w w' := by
  obtain ⟨c, rfl⟩ : ∃ c : UInt8, b = (c.toNat : Int) := ⟨UInt8.ofNat b.toNat, by simp; omega⟩
  have h : n % 65536 % 3 = 0 ∨ n % 65536 % 3 = 1 ∨ n % 65536 % 3 = 2 := by omega
  rcases h with h | h | h
  · exact standard_walk0 n c h w
  · exact standard_walk1 n c h w
  · exact standard_walk2 n c h w

end Go.Proofs.Ytkgaddlclfjkmaa
