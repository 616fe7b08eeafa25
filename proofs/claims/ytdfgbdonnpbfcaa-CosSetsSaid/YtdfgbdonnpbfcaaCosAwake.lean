/-
  The document's examples of package cos come out as they are told.
-/
import Derived.Test.YtdfgbdonnpbfcaaCosSettled
import Derived.Test.YtdfgbdonnpbfcaaCosParse
import Derived.Test.YtdfgbdonnpbfcaaCosSameAll
namespace Go.Proofs.Ytdfgbdonnpbfcaa
open Go.RowKit Cx
set_option linter.unusedSimpArgs false
set_option linter.unusedVariables false

def oA : Ob := .mk 5 0 0 ⟨#[]⟩ [.mk 7 1 0 ⟨#[]⟩ [] [], .mk 3 0 0 ⟨#[65]⟩ [] []] []
def oB : Ob := .mk 6 0 0 ⟨#[]⟩ [] []
def oI (f : Int) : Ob := .mk 2 1 f ⟨#[]⟩ [] []
def oX : Ob := .mk 6 0 0 ⟨#[]⟩ [] [(⟨#[120]⟩, oI 3000)]
set_option maxRecDepth 100000 in
theorem parse_A : ((0, oA, 10) : Int × Ob × Nat) = Cx.parse (⟨#[91, 49, 32, 48, 32, 82, 32, 47, 65, 93]⟩ : ByteArray).data.toList 0 := by kernel_rfl
set_option maxRecDepth 100000 in
theorem parse_B : ((0, oB, 11) : Int × Ob × Nat) = Cx.parse (⟨#[60, 60, 47, 65, 32, 110, 117, 108, 108, 62, 62]⟩ : ByteArray).data.toList 0 := by kernel_rfl
theorem set_X : Cx.set oB ⟨#[120]⟩ (oI 3000) = oX := by rfl
theorem get_X : Cx.get oX ⟨#[120]⟩ = oI 3000 := by kernel_rfl
theorem count_A : oA.count = 3 := by rfl
theorem same_A : oA.same oA = true := by kernel_rfl

theorem parseA_any (w : World) (hm : HasMax w) : Calls Try.prog 14 #[.string ⟨#[91, 49, 32, 48, 32, 82, 32, 47, 65, 93]⟩, .int .i64 0] w fun e w' =>
    ∃ p c q d, e = .returned (.tuple #[.agg #[.int .i64 5, .int .i64 0, .int .i64 0, .string ⟨#[]⟩, .slice p 2 c, .slice q 0 d], .int .i64 10, .int .i64 0]) ∧ Kept w w' ∧ Lies (Cel (fun b => w.heap.size ≤ b) w') oA ⟨p, c, q, d⟩ :=
  (cosParse_any settled_any _ 0 w (by decide) hm _ parse_A).mono fun _ _ ⟨⟨p, c, q, d⟩, he, hk, hl⟩ => ⟨p, c, q, d, he, hk, hl⟩
theorem parseB_any (w : World) (hm : HasMax w) : Calls Try.prog 14 #[.string ⟨#[60, 60, 47, 65, 32, 110, 117, 108, 108, 62, 62]⟩, .int .i64 0] w fun e w' =>
    ∃ p c q d, e = .returned (.tuple #[.agg #[.int .i64 6, .int .i64 0, .int .i64 0, .string ⟨#[]⟩, .slice p 0 c, .slice q 0 d], .int .i64 11, .int .i64 0]) ∧ Kept w w' ∧ Lies (Cel (fun b => w.heap.size ≤ b) w') oB ⟨p, c, q, d⟩ :=
  (cosParse_any settled_any _ 0 w (by decide) hm _ parse_B).mono fun _ _ ⟨⟨p, c, q, d⟩, he, hk, hl⟩ => ⟨p, c, q, d, he, hk, hl⟩
theorem setB_any (P : Nat → Prop) (p q p' q' : Option Addr) (c d c' d' : Nat) (w : World) (h1 : Lies (Cel P w) oB ⟨p, c, q, d⟩) (h2 : Lies (Cel P w) (oI 3000) ⟨p', c', q', d'⟩) :
    Calls Try.prog 10 #[.agg #[.int .i64 6, .int .i64 0, .int .i64 0, .string ⟨#[]⟩, .slice p 0 c, .slice q 0 d], .string ⟨#[120]⟩, .agg #[.int .i64 2, .int .i64 1, .int .i64 3000, .string ⟨#[]⟩, .slice p' 0 c', .slice q' 0 d']] w fun e w' =>
      ∃ p c q d, e = .returned (.agg #[.int .i64 6, .int .i64 0, .int .i64 0, .string ⟨#[]⟩, .slice p 0 c, .slice q 1 d]) ∧ Kept w w' ∧ Lies (Cel (fun b => P b ∨ w.heap.size ≤ b) w') oX ⟨p, c, q, d⟩ :=
  (cosSet_any P oB ⟨p, c, q, d⟩ ⟨#[120]⟩ (oI 3000) ⟨p', c', q', d'⟩ w h1 h2 (by decide) (by decide)).mono fun _ _ ⟨⟨p, c, q, d⟩, he, hk, hl⟩ => ⟨p, c, q, d, by rw [he, set_X]; rfl, hk, by rw [set_X] at hl; exact hl⟩
theorem getX_any (P : Nat → Prop) (p q : Option Addr) (c d : Nat) (w : World) (h1 : Lies (Cel P w) oX ⟨p, c, q, d⟩) :
    Calls Try.prog 11 #[.agg #[.int .i64 6, .int .i64 0, .int .i64 0, .string ⟨#[]⟩, .slice p 0 c, .slice q 1 d], .string ⟨#[120]⟩] w fun e w' =>
      ∃ p c q d, e = .returned (.agg #[.int .i64 2, .int .i64 1, .int .i64 3000, .string ⟨#[]⟩, .slice p 0 c, .slice q 0 d]) ∧ Kept w w' :=
  (cosGet_any P oX ⟨p, c, q, d⟩ ⟨#[120]⟩ w h1).mono fun _ _ ⟨⟨p, c, q, d⟩, he, hk, _⟩ => ⟨p, c, q, d, by rw [he, get_X]; rfl, hk⟩
theorem countA_any (P : Nat → Prop) (p q : Option Addr) (c d : Nat) (w : World) (h1 : Lies (Cel P w) oA ⟨p, c, q, d⟩) :
    Calls Try.prog 13 #[.agg #[.int .i64 5, .int .i64 0, .int .i64 0, .string ⟨#[]⟩, .slice p 2 c, .slice q 0 d]] w fun e w' => e = .returned (.int .i64 3) ∧ Kept w w' :=
  (Count_any P _ oA ⟨p, c, q, d⟩ w (Nat.le_refl _) h1 (by rw [count_A]; decide)).mono fun _ _ ⟨he, hk⟩ => ⟨by rw [he, count_A]; rfl, hk⟩
theorem sameA_any (P : Nat → Prop) (p q : Option Addr) (c d : Nat) (w : World) (h1 : Lies (Cel P w) oA ⟨p, c, q, d⟩) :
    Calls Try.prog 12 #[.agg #[.int .i64 5, .int .i64 0, .int .i64 0, .string ⟨#[]⟩, .slice p 2 c, .slice q 0 d], .agg #[.int .i64 5, .int .i64 0, .int .i64 0, .string ⟨#[]⟩, .slice p 2 c, .slice q 0 d]] w fun e w' => e = .returned (.bool true) ∧ Kept w w' :=
  (cosSame_any P oA oA ⟨p, c, q, d⟩ ⟨p, c, q, d⟩ w h1 h1 (by decide) (by decide)).mono fun _ _ ⟨he, hk⟩ => ⟨by rw [he, same_A], hk⟩

theorem int3_any (w : World) : Calls Try.prog 15 #[.int .i64 3] w fun e w' => e = .returned (.agg #[.int .i64 2, .int .i64 1, .int .i64 3000, .string ⟨#[]⟩, .slice none 0 0, .slice none 0 0]) ∧ Kept w w' :=
  (cosInt_any 3 w (by decide) (by decide)).mono fun _ _ ⟨he, hk⟩ => ⟨by rw [he]; rfl, hk⟩

theorem field_F (a b c : Int) (s : ByteArray) (p q : Option Addr) (n m x y : Nat) (w : World) : (Instr.field 26 (.agg #[.int .i64 a, .int .i64 b, .int .i64 c, .string s, .slice p n x, .slice q m y]) 2).run Try.prog w = .ok (.int .i64 c) w := by
  simp [Instr.field, run_underlying Try.underlying26, asAgg, go_sem]

set_option maxRecDepth 100000 in
set_option maxHeartbeats 4000000 in
theorem cosAwake_any (w : World) (hm : HasMax w) : Calls Try.prog 7 #[] w fun e w' => e = .returned (.bool true) ∧ Kept w w' := by
  have HM := Lib.hid hm
  have hff := field_F
  clear hm
  go_enter Try.func7, Try.ntmps7
  go_wp2_with fail
  (with_reducible refine (parseA_any _ HM.out).mono ?_)
  rintro e w1 ⟨p, c, q, d, rfl, hk1, hl1⟩
  have K1 := Lib.hid hk1
  have L1 := Lib.hid hl1
  have HA := Lib.hid (In.fresh (In.kept (In.start w) hk1) #[.int .i64 5, .int .i64 0, .int .i64 0, .string ⟨#[]⟩, .slice p 2 c, .slice q 0 d] 26)
  clear hk1 hl1
  go_wp2_with fail
  (with_reducible refine (parseB_any _ (HM.out.kept (In.k HA.out))).mono ?_)
  rintro e w2 ⟨p', c', q', d', rfl, hk2, hl2⟩
  have HB := Lib.hid (In.fresh (In.kept HA.out hk2) #[.int .i64 6, .int .i64 0, .int .i64 0, .string ⟨#[]⟩, .slice p' 0 c', .slice q' 0 d'] 26)
  have L1' := Lib.hid ((L1.out.kept ((Kept.refl _).alloc _ _)).kept hk2)
  have L2 := Lib.hid hl2
  clear hk2 hl2 L1
  obtain ⟨x0, b1, off, ⟨p0, c0, q0, d0⟩, hxe, hp, -, hbl, -, y0, -, -, -, -, -⟩ := L1'.out.elem 0 (by decide)
  simp only [] at hp
  subst hp
  have hx0 : x0.k = 7 := by rw [← hxe]; rfl
  rw [hx0] at y0
  clear hxe hx0
  go_wp2_with fail
  obtain ⟨a, ha⟩ : ∃ a, a = w1.heap.size := ⟨_, rfl⟩
  obtain ⟨b, hb⟩ : ∃ b, b = w2.heap.size := ⟨_, rfl⟩
  rw [← ha, ← hb] at HB
  rw [← ha, ← hb]
  have KW := Lib.hid ((Kept.refl w2).alloc #[.int .i64 6, .int .i64 0, .int .i64 0, .string ⟨#[]⟩, .slice p' 0 c', .slice q' 0 d'] 26)
  have L1' := Lib.hid (L1'.out.kept KW.out)
  have L2 := Lib.hid (L2.out.kept KW.out)
  have y0' := ((Kept.cells KW.out).1 _ _ hbl).trans y0
  have hbl' : b1 < (w2.alloc (.cells #[.int .i64 6, .int .i64 0, .int .i64 0, .string ⟨#[]⟩, .slice p' 0 c', .slice q' 0 d'] 26)).heap.size := Nat.lt_of_lt_of_le hbl KW.out.size
  clear KW y0 hbl HA ha hb
  generalize (w2.alloc (.cells #[.int .i64 6, .int .i64 0, .int .i64 0, .string ⟨#[]⟩, .slice p' 0 c', .slice q' 0 d'] 26)) = W0 at *
  simp only [Nat.zero_mul, Nat.add_zero] at y0'
  have SK := Lib.hid (show ∀ w', Kept W0 w' → (w'.cell? ⟨a, 0, none⟩ = some (.int .i64 5) ∧ w'.cell? ⟨a, 1, none⟩ = some (.int .i64 0) ∧ w'.cell? ⟨a, 2, none⟩ = some (.int .i64 0) ∧ w'.cell? ⟨a, 3, none⟩ = some (.string ⟨#[]⟩) ∧ w'.cell? ⟨a, 4, none⟩ = some (.slice (some ⟨b1, off, none⟩) 2 c) ∧ w'.cell? ⟨a, 5, none⟩ = some (.slice q 0 d)) ∧ (w'.cell? ⟨b, 0, none⟩ = some (.int .i64 6) ∧ w'.cell? ⟨b, 1, none⟩ = some (.int .i64 0) ∧ w'.cell? ⟨b, 2, none⟩ = some (.int .i64 0) ∧ w'.cell? ⟨b, 3, none⟩ = some (.string ⟨#[]⟩) ∧ w'.cell? ⟨b, 4, none⟩ = some (.slice p' 0 c') ∧ w'.cell? ⟨b, 5, none⟩ = some (.slice q' 0 d')) ∧ w'.cell? ⟨b1, off, none⟩ = some (.int .i64 7) from fun w' k =>
    ⟨((HB.out.mem (List.mem_cons_of_mem _ List.mem_cons_self)).kept k).cells6, ((HB.out.mem List.mem_cons_self).kept k).cells6, ((Kept.cells k).1 _ _ hbl').trans y0'⟩)
  have KX := Lib.hid (Kept.refl W0)
  obtain ⟨⟨g0, g1, g2, g3, g4, g5⟩, ⟨h0, h1, h2, h3, h4, h5⟩, hz⟩ := SK.out _ KX.out
  go_region_held3 (fun w' => (w'.cell? ⟨a, 0, none⟩ = some (.int .i64 5) ∧ w'.cell? ⟨a, 1, none⟩ = some (.int .i64 0) ∧ w'.cell? ⟨a, 2, none⟩ = some (.int .i64 0) ∧ w'.cell? ⟨a, 3, none⟩ = some (.string ⟨#[]⟩) ∧ w'.cell? ⟨a, 4, none⟩ = some (.slice (some ⟨b1, off, none⟩) 2 c) ∧ w'.cell? ⟨a, 5, none⟩ = some (.slice q 0 d)) ∧ (w'.cell? ⟨b, 0, none⟩ = some (.int .i64 6) ∧ w'.cell? ⟨b, 1, none⟩ = some (.int .i64 0) ∧ w'.cell? ⟨b, 2, none⟩ = some (.int .i64 0) ∧ w'.cell? ⟨b, 3, none⟩ = some (.string ⟨#[]⟩) ∧ w'.cell? ⟨b, 4, none⟩ = some (.slice p' 0 c') ∧ w'.cell? ⟨b, 5, none⟩ = some (.slice q' 0 d')) ∧ w'.cell? ⟨b1, off, none⟩ = some (.int .i64 7)) (go_keep)
    (first
    | (go_at_call 15; (with_reducible refine (int3_any _).mono ?_); rintro e wn ⟨rfl, kn⟩; (first | (with_reducible have KX := Lib.hid (KX.out.trans kn)) | (with_reducible have KX := Lib.hid (KX.out.drew.trans kn)) | (with_reducible have KX := Lib.hid (KX.out.drew.drew.trans kn))); obtain ⟨⟨g0, g1, g2, g3, g4, g5⟩, ⟨h0, h1, h2, h3, h4, h5⟩, hz⟩ := SK.out _ KX.out)
    | (go_at_call 10; (first | (with_reducible refine (setB_any _ _ _ _ _ _ _ _ _ _ (L2.out.kept KX.out) (Lies.flat _ 2 1 3000 ⟨#[]⟩ _ (Nat.zero_le _))).mono ?_) | (with_reducible refine (setB_any _ _ _ _ _ _ _ _ _ _ (L2.out.kept KX.out.drew) (Lies.flat _ 2 1 3000 ⟨#[]⟩ _ (Nat.zero_le _))).mono ?_) | (with_reducible refine (setB_any _ _ _ _ _ _ _ _ _ _ (L2.out.kept KX.out.drew.drew) (Lies.flat _ 2 1 3000 ⟨#[]⟩ _ (Nat.zero_le _))).mono ?_)); rintro e wn ⟨p3, c3, q3, d3, rfl, kn, lx⟩; have LX := Lib.hid lx; (first | (with_reducible have KX := Lib.hid (KX.out.trans kn)) | (with_reducible have KX := Lib.hid (KX.out.drew.trans kn)) | (with_reducible have KX := Lib.hid (KX.out.drew.drew.trans kn))); obtain ⟨⟨g0, g1, g2, g3, g4, g5⟩, ⟨h0, h1, h2, h3, h4, h5⟩, hz⟩ := SK.out _ KX.out)
    | (go_at_call 11; (first | (with_reducible refine (getX_any _ _ _ _ _ _ LX.out).mono ?_) | (with_reducible refine (getX_any _ _ _ _ _ _ (LX.out.kept (Kept.refl _).drew)).mono ?_)); rintro e wn ⟨p4, c4, q4, d4, rfl, kn⟩; (first | (with_reducible have KX := Lib.hid (KX.out.trans kn)) | (with_reducible have KX := Lib.hid (KX.out.drew.trans kn)) | (with_reducible have KX := Lib.hid (KX.out.drew.drew.trans kn))); obtain ⟨⟨g0, g1, g2, g3, g4, g5⟩, ⟨h0, h1, h2, h3, h4, h5⟩, hz⟩ := SK.out _ KX.out)
    | (go_at_call 13; (first | (with_reducible refine (countA_any _ _ _ _ _ _ (L1'.out.kept KX.out)).mono ?_) | (with_reducible refine (countA_any _ _ _ _ _ _ (L1'.out.kept KX.out.drew)).mono ?_) | (with_reducible refine (countA_any _ _ _ _ _ _ (L1'.out.kept KX.out.drew.drew)).mono ?_)); rintro e wn ⟨rfl, kn⟩; (first | (with_reducible have KX := Lib.hid (KX.out.trans kn)) | (with_reducible have KX := Lib.hid (KX.out.drew.trans kn)) | (with_reducible have KX := Lib.hid (KX.out.drew.drew.trans kn))); obtain ⟨⟨g0, g1, g2, g3, g4, g5⟩, ⟨h0, h1, h2, h3, h4, h5⟩, hz⟩ := SK.out _ KX.out)
    | (go_at_call 12; (first | (with_reducible refine (sameA_any _ _ _ _ _ _ (L1'.out.kept KX.out)).mono ?_) | (with_reducible refine (sameA_any _ _ _ _ _ _ (L1'.out.kept KX.out.drew)).mono ?_) | (with_reducible refine (sameA_any _ _ _ _ _ _ (L1'.out.kept KX.out.drew.drew)).mono ?_)); rintro e wn ⟨rfl, kn⟩; (first | (with_reducible have KX := Lib.hid (KX.out.trans kn)) | (with_reducible have KX := Lib.hid (KX.out.drew.trans kn)) | (with_reducible have KX := Lib.hid (KX.out.drew.drew.trans kn))); obtain ⟨⟨g0, g1, g2, g3, g4, g5⟩, ⟨h0, h1, h2, h3, h4, h5⟩, hz⟩ := SK.out _ KX.out))
  all_goals
    go_wp2_with fail
    go_ret
    exact ⟨rfl, by
      have K0 := In.k HB.out
      repeat (with_reducible first | exact K0.trans KX.out | refine Kept.drewN ?_ _ | refine Kept.drew ?_)⟩

end Go.Proofs.Ytdfgbdonnpbfcaa
