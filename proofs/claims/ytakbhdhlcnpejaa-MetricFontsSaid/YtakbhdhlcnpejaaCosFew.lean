/-
  What few, and Few, answer of any object.
-/
import Derived.Test.YtakbhdhlcnpejaaCosCount
import Derived.Test.YtakbhdhlcnpejaaArgS
import Derived.Test.YtakbhdhlcnpejaaXBase
import Derived.Deep.RegionHeld3
namespace Go.Proofs.Ytakbhdhlcnpejaa
open Go.RowKit Cx
set_option linter.unusedSimpArgs false
set_option linter.unusedVariables false

/-- What few says of an object. -/
def FewC (P : Nat → Prop) (x : Ob) : Prop :=
  ∀ (h : Hd) (left : Int) (dep : Nat) (w : World), Lies (Cel P w) x h → dep ≤ 201 → -1 - 140737488355328 ≤ left → left ≤ 4294967296 → Calls Try.prog 17 #[objV x h, .int .i64 left, .int .i64 dep] w fun e w' => e = .returned (.int .i64 (few x left dep)) ∧ Kept w w'

set_option maxRecDepth 100000 in
set_option maxHeartbeats 4000000 in
theorem few_step (P : Nat → Prop) (x : Ob) (hf : Ob.Fits 140737488355328 x) (IHL : ∀ z ∈ x.l, FewC P z) (IHD : ∀ e ∈ x.d, FewC P e.2) : FewC P x := by
  intro h left dep w hl hd h1 h2
  have HL := Lib.hid hl
  have HIL := Lib.hid IHL
  have HID := Lib.hid IHD
  have HF := Lib.hid hf
  have HQ := Lib.hid (few_eq x left dep)
  have hb := hl.bounds
  have hs := hf.s.1
  obtain ⟨p, c, q, ec⟩ := h
  clear hl IHL IHD hf
  obtain ⟨R, hR⟩ : ∃ R, R = few x left dep := ⟨_, rfl⟩
  rw [← hR] at HQ ⊢
  clear hR
  obtain ⟨hb1, hb2, _⟩ := hb
  unfold maxLen at hb1 hb2
  obtain ⟨k, n, f, s, l, d⟩ := x
  unfold objV
  simp only [Ob.k, Ob.n, Ob.f, Ob.s, Ob.l, Ob.d] at HQ hb1 hb2 hs HIL HID ⊢
  have HI := Lib.hid (In.fresh (In.start w) #[.int .i64 k, .int .i64 n, .int .i64 f, .string s, .slice p l.length c, .slice q d.length ec] 27)
  have KI := Lib.hid (In.k HI.out)
  by_cases hdd : 200 < dep
  · have HA := Lib.hid (show R = -1 by rw [HQ.out, if_pos hdd])
    go_enter Try.func17, Try.ntmps17
    go_wp2_with fail
    go_ret
    exact ⟨ret_int HA.out.symm, KI.out⟩
  · have HQ1 := Lib.hid (show R = fewD d (fewL l (left - 1 - s.size) dep) dep by rw [HQ.out, if_neg hdd])
    go_enter Try.func17, Try.ntmps17
    go_wp2_with fail
    obtain ⟨L0, hL0⟩ : ∃ L0, L0 = left - 1 - (s.size : Int) := ⟨_, rfl⟩
    have HF1 := Lib.hid (fewL_lo 140737488355328 l L0 dep (fun z hz => HF.out.l hz) (by omega))
    rw [← hL0] at HQ1
    obtain ⟨L1, hL1⟩ : ∃ L1, L1 = fewL l L0 dep := ⟨_, rfl⟩
    rw [← hL1] at HQ1
    have hL1' : -2 - 2 * 140737488355328 ≤ L1 ∧ L1 ≤ 4294967296 := by have := HF1.out; rw [← hL1] at this; omega
    have hL0' : -2 - 2 * 140737488355328 ≤ L0 ∧ L0 ≤ 4294967296 := by omega
    have HL1 := Lib.hid hL1
    obtain ⟨b1, b2⟩ := hL1'
    have hd3 : ((dep + 1 : Nat) : Int) = (dep : Int) + 1 := by omega
    have HD3 := Lib.hid hd3
    clear hL1 HF1 hd3
    go_loopg [1, 7] (l.length) (fun m a i wr => ∃ (j : Nat) (L : Int), m = l.length - j ∧ j ≤ l.length ∧ i = .int .i64 j ∧ a = .int .i64 L ∧ -2 - 2 * 140737488355328 ≤ L ∧ L ≤ 4294967296 ∧ Hid (L1 = fewL (l.drop j) L dep) ∧ In w [(w.heap.size, #[.int .i64 k, .int .i64 n, .int .i64 f, .string s, .slice p l.length c, .slice q d.length ec], 27)] wr)
    case atStart => exact ⟨0, L0, by omega, Nat.zero_le _, rfl, by go_num, hL0'.1, hL0'.2, Lib.hid (by rw [List.drop_zero]; exact HL1.out), HI.out⟩
    case round =>
      obtain ⟨j, L, hm, hj, rfl, rfl, g1, g2, HS, hI⟩ := hrel
      have HIR := Lib.hid hI
      have HK := Lib.hid (In.k hI)
      obtain ⟨t0, t1, t2, t3, t4, t5⟩ := (HIR.out.mem List.mem_cons_self).cells6
      clear hI
      by_cases hlt : j < l.length ∧ 0 ≤ L
      · obtain ⟨hlt, hL⟩ := hlt
        obtain ⟨x, b, off, ⟨p', c', q', e'⟩, hxe, hp, hP, hbl, hx, y0, y1, y2, y3, y4, y5⟩ := (HL.out.kept HK.out).elem j hlt
        simp only [Ob.l] at hxe
        simp only [] at hp y4 y5
        subst hp
        have hmem := List.getElem_mem hlt
        rw [hxe] at hmem
        have hC := few_lo 140737488355328 x L (dep + 1) (HF.out.l hmem) (by omega)
        have IX0 := HIL.out x hmem ⟨p', c', q', e'⟩ L (dep + 1)
        have HST := Lib.hid (show L1 = fewL (l.drop (j + 1)) (few x L (dep + 1)) dep by rw [HS.out, List.drop_eq_getElem_cons hlt, fewL_cons, if_pos hL, hxe])
        obtain ⟨C, hCC⟩ : ∃ C, C = few x L (dep + 1) := ⟨_, rfl⟩
        rw [← hCC] at HST hC IX0
        unfold objV at IX0
        simp only [] at IX0
        rw [HD3.out] at IX0
        have IX := Lib.hid IX0
        have HX := Lib.hid hx
        obtain ⟨hC1, hC2⟩ := hC
        clear IX0 hx hmem hxe hCC hP
        go_wp2_with fail
        (with_reducible refine (IX.out _ HX.out (by omega) (by omega) (by omega)).mono ?_)
        rintro ee w4 ⟨rfl, hk4⟩
        have HI4 := Lib.hid (HIR.out.kept hk4)
        clear hk4 t0 t1 t2 t3 t4 t5 y0 y1 y2 y3 y4 y5
        go_wp2_with fail
        go_roundg (l.length - (j + 1))
        case measure => omega
        case rel => exact ⟨j + 1, C, rfl, by omega, by go_num, rfl, hC1, by omega, HST, HI4.out⟩
      · have hE : L1 = L := by
          rw [HS.out]
          rcases Int.lt_or_le L 0 with hn | hn
          · exact fewL_neg _ _ _ hn
          · have : j = l.length := by omega
            rw [this, List.drop_eq_nil_of_le (Nat.le_refl _), fewL]
        have HQ2 := Lib.hid (show R = fewD d L dep by rw [HQ1.out, hE])
        have HIS := Lib.hid HIR.out
        clear hE HS HL1 HQ1
        have hcase : (j < l.length ∧ L < 0) ∨ ¬ j < l.length := by omega
        rcases hcase with ⟨hlt, hneg⟩ | hlt
        all_goals
          go_wp2_with fail
          clear t0 t1 t2 t3 t4 t5
          obtain ⟨L2, hL2⟩ : ∃ L2, L2 = L := ⟨_, rfl⟩
          go_loopg [1, 8] (d.length) (fun m a i wr => ∃ (j : Nat) (L : Int), m = d.length - j ∧ j ≤ d.length ∧ i = .int .i64 j ∧ a = .int .i64 L ∧ -2 - 2 * 140737488355328 ≤ L ∧ L ≤ 4294967296 ∧ Hid (R = fewD (d.drop j) L dep) ∧ In w [(w.heap.size, #[.int .i64 k, .int .i64 n, .int .i64 f, .string s, .slice p l.length c, .slice q d.length ec], 27)] wr)
          case atStart => exact ⟨0, L, by omega, Nat.zero_le _, rfl, rfl, g1, g2, Lib.hid (by rw [List.drop_zero]; exact HQ2.out), HIS.out⟩
          case round =>
            obtain ⟨j, L, hm, hj, rfl, rfl, g1, g2, HS, hI⟩ := hrel
            have HIR := Lib.hid hI
            have HK := Lib.hid (In.k hI)
            obtain ⟨t0, t1, t2, t3, t4, t5⟩ := (HIR.out.mem List.mem_cons_self).cells6
            clear hI
            by_cases hlt : j < d.length ∧ 0 ≤ L
            · obtain ⟨hlt, hL⟩ := hlt
              obtain ⟨ek, x, b3, off, ⟨p', c', q', e'⟩, hxe, hp, hP, hbl, hx, hks, z0, y0, y1, y2, y3, y4, y5⟩ := (HL.out.kept HK.out).entry j hlt
              simp only [Ob.d] at hxe
              simp only [] at hp y4 y5
              subst hp
              have hmem := List.getElem_mem hlt
              rw [hxe] at hmem
              have hfit := HF.out.d hmem
              simp only [] at hfit
              have hC := few_lo 140737488355328 x (L - ek.size) (dep + 1) hfit.2 (by omega)
              have IX0 := HID.out (ek, x) hmem ⟨p', c', q', e'⟩ (L - ek.size) (dep + 1)
              have HST := Lib.hid (show R = fewD (d.drop (j + 1)) (few x (L - ek.size) (dep + 1)) dep by rw [HS.out, List.drop_eq_getElem_cons hlt, fewD_cons, if_pos hL, hxe])
              obtain ⟨C, hCC⟩ : ∃ C, C = few x (L - ek.size) (dep + 1) := ⟨_, rfl⟩
              rw [← hCC] at HST hC IX0
              unfold objV at IX0
              simp only [] at IX0
              rw [HD3.out] at IX0
              have IX := Lib.hid IX0
              have HX := Lib.hid hx
              obtain ⟨hC1, hC2⟩ := hC
              have hes := hfit.1
              unfold maxLen at hks
              clear IX0 hx hmem hxe hCC hP hfit
              have SK := Lib.hid (show ∀ w', Kept wr w' → (w'.cell? ⟨w.heap.size, 0, none⟩ = some (.int .i64 k) ∧ w'.cell? ⟨w.heap.size, 1, none⟩ = some (.int .i64 n) ∧ w'.cell? ⟨w.heap.size, 2, none⟩ = some (.int .i64 f) ∧ w'.cell? ⟨w.heap.size, 3, none⟩ = some (.string s) ∧ w'.cell? ⟨w.heap.size, 4, none⟩ = some (.slice p l.length c) ∧ w'.cell? ⟨w.heap.size, 5, none⟩ = some (.slice (some ⟨b3, off, none⟩) d.length ec)) ∧ w'.cell? ⟨b3, off + j * 7, none⟩ = some (.string ek) ∧ w'.cell? ⟨b3, off + j * 7 + 1, none⟩ = some (.int .i64 x.k) ∧ w'.cell? ⟨b3, off + j * 7 + 2, none⟩ = some (.int .i64 x.n) ∧ w'.cell? ⟨b3, off + j * 7 + 3, none⟩ = some (.int .i64 x.f) ∧ w'.cell? ⟨b3, off + j * 7 + 4, none⟩ = some (.string x.s) ∧ w'.cell? ⟨b3, off + j * 7 + 5, none⟩ = some (.slice p' x.l.length c') ∧ w'.cell? ⟨b3, off + j * 7 + 6, none⟩ = some (.slice q' x.d.length e') from fun w' k => ⟨((HIR.out.mem List.mem_cons_self).kept k).cells6, ((Kept.cells k).1 _ _ hbl).trans z0, ((Kept.cells k).1 _ _ hbl).trans y0, ((Kept.cells k).1 _ _ hbl).trans y1, ((Kept.cells k).1 _ _ hbl).trans y2, ((Kept.cells k).1 _ _ hbl).trans y3, ((Kept.cells k).1 _ _ hbl).trans y4, ((Kept.cells k).1 _ _ hbl).trans y5⟩)
              have hw1 : IntKind.i64.wrap (L - (ek.size : Int)) = L - (ek.size : Int) := by rw [IntKind.wrap_i64]; omega
              have hw2 : IntKind.i64.wrap ((dep : Int) + 1) = (dep : Int) + 1 := by rw [IntKind.wrap_i64]; omega
              have HW1 := Lib.hid hw1
              have HW2 := Lib.hid hw2
              clear hw1 hw2
              go_wp2_with fail
              go_region_held3 (fun w' => (w'.cell? ⟨w.heap.size, 0, none⟩ = some (.int .i64 k) ∧ w'.cell? ⟨w.heap.size, 1, none⟩ = some (.int .i64 n) ∧ w'.cell? ⟨w.heap.size, 2, none⟩ = some (.int .i64 f) ∧ w'.cell? ⟨w.heap.size, 3, none⟩ = some (.string s) ∧ w'.cell? ⟨w.heap.size, 4, none⟩ = some (.slice p l.length c) ∧ w'.cell? ⟨w.heap.size, 5, none⟩ = some (.slice (some ⟨b3, off, none⟩) d.length ec)) ∧ w'.cell? ⟨b3, off + j * 7, none⟩ = some (.string ek) ∧ w'.cell? ⟨b3, off + j * 7 + 1, none⟩ = some (.int .i64 x.k) ∧ w'.cell? ⟨b3, off + j * 7 + 2, none⟩ = some (.int .i64 x.n) ∧ w'.cell? ⟨b3, off + j * 7 + 3, none⟩ = some (.int .i64 x.f) ∧ w'.cell? ⟨b3, off + j * 7 + 4, none⟩ = some (.string x.s) ∧ w'.cell? ⟨b3, off + j * 7 + 5, none⟩ = some (.slice p' x.l.length c') ∧ w'.cell? ⟨b3, off + j * 7 + 6, none⟩ = some (.slice q' x.d.length e')) (go_keep)
                (first | (go_at_call 17; (try rw [HW1.out]); (try rw [HW2.out]); (first | (with_reducible refine (IX.out _ HX.out (by omega) (by omega) (by omega)).mono ?_) | (with_reducible refine (IX.out _ (HX.out.kept (Kept.refl _).drew) (by omega) (by omega) (by omega)).mono ?_)); rintro e wn ⟨rfl, kn⟩; (first | (with_reducible have SN := SK.out _ kn) | (with_reducible have SN := SK.out _ ((Kept.refl _).drew.trans kn))); obtain ⟨⟨s1, s2, s3, s4, s5, s6⟩, r0, r1, r2, r3, r4, r5, r6⟩ := SN; (first | (with_reducible have IN := Lib.hid (HIR.out.kept kn)) | (with_reducible have IN := Lib.hid ((HIR.out.kept (Kept.refl _).drew).kept kn)))))
              all_goals
                go_wp2_with fail
                go_roundg (d.length - (j + 1))
                case measure => omega
                case rel => exact ⟨j + 1, C, rfl, by omega, by go_num, rfl, hC1, by omega, HST, IN.out⟩
            · have hE : R = L := by
                rw [HS.out]
                rcases Int.lt_or_le L 0 with hn | hn
                · exact fewD_neg _ _ _ hn
                · have : j = d.length := by omega
                  rw [this, List.drop_eq_nil_of_le (Nat.le_refl _), fewD]
              have HA := Lib.hid hE.symm
              have hcase : (j < d.length ∧ L < 0) ∨ ¬ j < d.length := by omega
              clear hE
              rcases hcase with ⟨hlt, hneg⟩ | hlt
              all_goals
                go_wp2_with fail
                go_ret
                exact ⟨ret_int HA.out, HK.out⟩

theorem few_any (P : Nat → Prop) (N : Nat) : ∀ (x : Ob), SizeOf.sizeOf x ≤ N → Ob.Fits 140737488355328 x → FewC P x := by
  induction N with
  | zero =>
    intro x hN
    cases x; simp at hN
  | succ N ih =>
    intro x hN hf
    exact few_step P x hf (fun z hz => ih z (by have := sizeOf_l hz; omega) (hf.l hz)) (fun e he => ih e.2 (by have := sizeOf_d he; omega) (hf.d he).2)

/-- Has an object at most so many in it? -/
theorem Few_any (P : Nat → Prop) (x : Ob) (h : Hd) (most : Int) (w : World) (hl : Lies (Cel P w) x h) (hf : Ob.Fits 140737488355328 x) (h1 : 0 ≤ most) (h2 : most ≤ 4294967296) :
    Calls Try.prog 6 #[objV x h, .int .i64 most] w fun e w' => e = .returned (.bool (decide (0 ≤ few x most 0))) ∧ Kept w w' := by
  have FX := fun w' (k : Kept w w') => few_any P _ x (Nat.le_refl _) hf h most 0 w' (hl.kept k) (by omega) (by omega) h2
  have hlo := few_lo 140737488355328 x most 0 hf (by omega)
  obtain ⟨C, hC⟩ : ∃ C, C = few x most 0 := ⟨_, rfl⟩
  rw [← hC] at FX hlo ⊢
  unfold objV at FX ⊢
  simp only [Int.ofNat_zero, Int.natCast_zero] at FX
  have FX := Lib.hid FX
  obtain ⟨b1, b2⟩ := hlo
  clear hC hl hf
  go_enter Try.func6, Try.ntmps6
  go_wp2_with fail
  (with_reducible refine (FX.out _ ((Kept.refl w).alloc _ _)).mono ?_)
  rintro e w1 ⟨rfl, hk1⟩
  have K1 := Lib.hid (((Kept.refl w).alloc _ _).trans hk1)
  clear hk1
  go_wp2_with fail
  go_ret
  exact ⟨rfl, K1.out⟩

end Go.Proofs.Ytakbhdhlcnpejaa
