/-
  What the document's Exact answers: are two objects one?
-/
import Derived.Test.YtkpagahnmbchjaaGreatDoorCosSame
import Derived.Deep.RegionHeld3
namespace Go.Proofs.YtkpagahnmbchjaaGreatDoor
open Go.RowKit Cx
set_option linter.unusedSimpArgs false
set_option linter.unusedVariables false

noncomputable def ex (x y : Ob) : Bool := @decide (x = y) (Classical.propDecidable _)
theorem ex_yes {x y : Ob} (h : x = y) : ex x y = true := @decide_eq_true _ (Classical.propDecidable _) h
theorem ex_no {x y : Ob} (h : x ≠ y) : ex x y = false := @decide_eq_false _ (Classical.propDecidable _) h
theorem ex_iff {x y : Ob} : ex x y = true ↔ x = y := ⟨fun h => @of_decide_eq_true _ (Classical.propDecidable _) h, ex_yes⟩

/-- What Exact says of an object, held against whatever. -/
def ExC (P : Nat → Prop) (x : Ob) : Prop :=
  ∀ (y : Ob) (hx hy : Hd) (w : World), Lies (Cel P w) x hx → Lies (Cel P w) y hy → Calls Tryz.prog 22 #[objV x hx, objV y hy] w fun e w' => e = .returned (.bool (ex x y)) ∧ Kept w w'

set_option maxRecDepth 100000 in
set_option maxHeartbeats 4000000 in
theorem Exact_step (P : Nat → Prop) (x : Ob) (IHL : ∀ z ∈ x.l, ExC P z) (IHD : ∀ e ∈ x.d, ExC P e.2) : ExC P x := by
  intro y hx hy w h1 h2
  have H1 := Lib.hid h1
  have H2 := Lib.hid h2
  have HIL := Lib.hid IHL
  have HID := Lib.hid IHD
  have hb := h1.bounds
  have hb' := h2.bounds
  obtain ⟨p1, c1, q1, e1⟩ := hx
  obtain ⟨p2, c2, q2, e2⟩ := hy
  clear h1 h2 IHL IHD
  obtain ⟨R, hR⟩ : ∃ R, R = ex x y := ⟨_, rfl⟩
  have HR := Lib.hid hR
  rw [← hR]
  clear hR
  obtain ⟨hb1, hb2, _⟩ := hb
  obtain ⟨hb3, hb4, _⟩ := hb'
  unfold maxLen at hb1 hb2 hb3 hb4
  obtain ⟨k, n, f, s, l, d⟩ := x
  obtain ⟨k', n', f', s', l', d'⟩ := y
  unfold objV
  simp only [Ob.k, Ob.n, Ob.f, Ob.s, Ob.l, Ob.d] at hb1 hb2 hb3 hb4 HIL HID ⊢
  have HI := Lib.hid (In.fresh' (k := w.heap.size + 1) (In.fresh (In.start w) #[.int .i64 k, .int .i64 n, .int .i64 f, .string s, .slice p1 l.length c1, .slice q1 d.length e1] 32) #[.int .i64 k', .int .i64 n', .int .i64 f', .string s', .slice p2 l'.length c2, .slice q2 d'.length e2] 32 (by simp))
  have KI := Lib.hid (In.k HI.out)
  by_cases ha : k = k' ∧ n = n' ∧ f = f' ∧ s = s' ∧ l.length = l'.length ∧ d.length = d'.length
  · obtain ⟨rfl, rfl, rfl, rfl, hl, hd⟩ := ha
    have hl' : ((l.length : Int) != (l'.length : Int)) = false := by rw [hl]; exact bne_self_eq_false _
    have hd' : ((d.length : Int) != (d'.length : Int)) = false := by rw [hd]; exact bne_self_eq_false _
    have HLN := Lib.hid hl
    have HDN := Lib.hid hd
    clear hl hd
    go_enter Tryz.func22, Tryz.ntmps22
    go_wp2_with fail
    go_loopg [5] (l.length) (fun m i wr => ∃ (j : Nat), m = l.length - j ∧ j ≤ l.length ∧ i = .int .i64 j ∧ In w [(w.heap.size + 1, #[.int .i64 k, .int .i64 n, .int .i64 f, .string s, .slice p2 l'.length c2, .slice q2 d'.length e2], 32), (w.heap.size, #[.int .i64 k, .int .i64 n, .int .i64 f, .string s, .slice p1 l.length c1, .slice q1 d.length e1], 32)] wr ∧ Hid (∀ i (h : i < j) (h1 : i < l.length) (h2 : i < l'.length), l[i] = l'[i]))
    case atStart => exact ⟨0, by omega, Nat.zero_le _, rfl, HI.out, Lib.hid (fun i h => absurd h (Nat.not_lt_zero _))⟩
    case round =>
      obtain ⟨j, hm, hj, rfl, hI, HS⟩ := hrel
      have HIR := Lib.hid hI
      have HK := Lib.hid (In.k hI)
      obtain ⟨t0, t1, t2, t3, t4, t5⟩ := (HIR.out.mem (List.mem_cons_of_mem _ List.mem_cons_self)).cells6
      obtain ⟨v0, v1, v2, v3, v4, v5⟩ := (HIR.out.mem List.mem_cons_self).cells6
      clear hI
      by_cases hlt : j < l.length
      · have hlt2 : j < l'.length := by have := HLN.out; omega
        obtain ⟨x, b, off, ⟨p', c', q', e'⟩, hxe, hp, -, hbl, hx, y0, y1, y2, y3, y4, y5⟩ := (H1.out.kept HK.out).elem j hlt
        obtain ⟨y, bb, off2, ⟨p2', c2', q2', e2'⟩, hye, hp2, -, hbl2, hy, z0, z1, z2, z3, z4, z5⟩ := (H2.out.kept HK.out).elem j hlt2
        simp only [Ob.l] at hxe hye
        simp only [] at hp hp2 y4 y5 z4 z5
        subst hp
        subst hp2
        have HXE := Lib.hid hxe
        have HYE := Lib.hid hye
        have HXL := Lib.hid hx
        have HYL := Lib.hid hy
        have KX := Lib.hid (Kept.refl wr)
        have IX0 := HIL.out x (by rw [← hxe]; exact List.getElem_mem hlt) y ⟨p', c', q', e'⟩ ⟨p2', c2', q2', e2'⟩
        unfold objV at IX0
        simp only [] at IX0
        obtain ⟨X, hX⟩ : ∃ X, X = ex x y := ⟨_, rfl⟩
        rw [← hX] at IX0
        have HX := Lib.hid hX
        have IX := Lib.hid IX0
        have SK := Lib.hid (show ∀ w', Kept wr w' → (w'.cell? ⟨w.heap.size, 4, none⟩ = some (.slice (some ⟨b, off, none⟩) l.length c1) ∧ w'.cell? ⟨w.heap.size, 5, none⟩ = some (.slice q1 d.length e1)) ∧ (w'.cell? ⟨w.heap.size + 1, 4, none⟩ = some (.slice (some ⟨bb, off2, none⟩) l'.length c2) ∧ w'.cell? ⟨w.heap.size + 1, 5, none⟩ = some (.slice q2 d'.length e2)) ∧ (w'.cell? ⟨b, off + j * 6, none⟩ = some (.int .i64 x.k) ∧ w'.cell? ⟨b, off + j * 6 + 1, none⟩ = some (.int .i64 x.n) ∧ w'.cell? ⟨b, off + j * 6 + 2, none⟩ = some (.int .i64 x.f) ∧ w'.cell? ⟨b, off + j * 6 + 3, none⟩ = some (.string x.s) ∧ w'.cell? ⟨b, off + j * 6 + 4, none⟩ = some (.slice p' x.l.length c') ∧ w'.cell? ⟨b, off + j * 6 + 5, none⟩ = some (.slice q' x.d.length e')) ∧ (w'.cell? ⟨bb, off2 + j * 6, none⟩ = some (.int .i64 y.k) ∧ w'.cell? ⟨bb, off2 + j * 6 + 1, none⟩ = some (.int .i64 y.n) ∧ w'.cell? ⟨bb, off2 + j * 6 + 2, none⟩ = some (.int .i64 y.f) ∧ w'.cell? ⟨bb, off2 + j * 6 + 3, none⟩ = some (.string y.s) ∧ w'.cell? ⟨bb, off2 + j * 6 + 4, none⟩ = some (.slice p2' y.l.length c2') ∧ w'.cell? ⟨bb, off2 + j * 6 + 5, none⟩ = some (.slice q2' y.d.length e2')) from fun w' k => by
          obtain ⟨_, _, _, _, a4, a5⟩ := ((HIR.out.mem (List.mem_cons_of_mem _ List.mem_cons_self)).kept k).cells6
          obtain ⟨_, _, _, _, b4, b5⟩ := ((HIR.out.mem List.mem_cons_self).kept k).cells6
          have K := (Kept.cells k).1
          exact ⟨⟨a4, a5⟩, ⟨b4, b5⟩, ⟨(K _ _ hbl).trans y0, (K _ _ hbl).trans y1, (K _ _ hbl).trans y2, (K _ _ hbl).trans y3, (K _ _ hbl).trans y4, (K _ _ hbl).trans y5⟩, (K _ _ hbl2).trans z0, (K _ _ hbl2).trans z1, (K _ _ hbl2).trans z2, (K _ _ hbl2).trans z3, (K _ _ hbl2).trans z4, (K _ _ hbl2).trans z5⟩)
        clear IX0 hX hx hy hxe hye
        cases X
        · have HA := Lib.hid (show R = false by
            rw [HR.out]
            refine ex_no fun e => ?_
            injection e with _ _ _ _ e5 _
            have h1 : l[j] = l'[j] := by subst e5; rfl
            rw [HXE.out, HYE.out] at h1
            have := HX.out
            rw [ex_yes h1] at this; cases this)
          go_wp2_with fail
          go_region_held3 (fun w' => (w'.cell? ⟨w.heap.size, 4, none⟩ = some (.slice (some ⟨b, off, none⟩) l.length c1) ∧ w'.cell? ⟨w.heap.size, 5, none⟩ = some (.slice q1 d.length e1)) ∧ (w'.cell? ⟨w.heap.size + 1, 4, none⟩ = some (.slice (some ⟨bb, off2, none⟩) l'.length c2) ∧ w'.cell? ⟨w.heap.size + 1, 5, none⟩ = some (.slice q2 d'.length e2)) ∧ (w'.cell? ⟨b, off + j * 6, none⟩ = some (.int .i64 x.k) ∧ w'.cell? ⟨b, off + j * 6 + 1, none⟩ = some (.int .i64 x.n) ∧ w'.cell? ⟨b, off + j * 6 + 2, none⟩ = some (.int .i64 x.f) ∧ w'.cell? ⟨b, off + j * 6 + 3, none⟩ = some (.string x.s) ∧ w'.cell? ⟨b, off + j * 6 + 4, none⟩ = some (.slice p' x.l.length c') ∧ w'.cell? ⟨b, off + j * 6 + 5, none⟩ = some (.slice q' x.d.length e')) ∧ (w'.cell? ⟨bb, off2 + j * 6, none⟩ = some (.int .i64 y.k) ∧ w'.cell? ⟨bb, off2 + j * 6 + 1, none⟩ = some (.int .i64 y.n) ∧ w'.cell? ⟨bb, off2 + j * 6 + 2, none⟩ = some (.int .i64 y.f) ∧ w'.cell? ⟨bb, off2 + j * 6 + 3, none⟩ = some (.string y.s) ∧ w'.cell? ⟨bb, off2 + j * 6 + 4, none⟩ = some (.slice p2' y.l.length c2') ∧ w'.cell? ⟨bb, off2 + j * 6 + 5, none⟩ = some (.slice q2' y.d.length e2'))) (go_keep)
            (first | (go_at_call 22; (first | (with_reducible refine (IX.out _ (HXL.out.kept KX.out) (HYL.out.kept KX.out)).mono ?_) | (with_reducible refine (IX.out _ (HXL.out.kept KX.out.drew) (HYL.out.kept KX.out.drew)).mono ?_)); rintro e wn ⟨rfl, kn⟩; (first | (with_reducible have KX := Lib.hid (KX.out.trans kn)) | (with_reducible have KX := Lib.hid (KX.out.drew.trans kn))); obtain ⟨⟨t4, t5⟩, ⟨v4, v5⟩, ⟨y0, y1, y2, y3, y4, y5⟩, z0, z1, z2, z3, z4, z5⟩ := SK.out _ KX.out))
          all_goals
            go_wp2_with fail
            go_ret
            exact ⟨ret_bool HA.out.symm, HK.out.trans KX.out⟩
        · have HS1 := Lib.hid (show ∀ i (h : i < j + 1) (h1 : i < l.length) (h2 : i < l'.length), l[i] = l'[i] from fun i h h1 h2 => by
            by_cases hij : i < j
            · exact HS.out i hij h1 h2
            · obtain rfl : i = j := by omega
              rw [HXE.out, HYE.out]; exact ex_iff.1 HX.out.symm)
          go_wp2_with fail
          go_region_held3 (fun w' => (w'.cell? ⟨w.heap.size, 4, none⟩ = some (.slice (some ⟨b, off, none⟩) l.length c1) ∧ w'.cell? ⟨w.heap.size, 5, none⟩ = some (.slice q1 d.length e1)) ∧ (w'.cell? ⟨w.heap.size + 1, 4, none⟩ = some (.slice (some ⟨bb, off2, none⟩) l'.length c2) ∧ w'.cell? ⟨w.heap.size + 1, 5, none⟩ = some (.slice q2 d'.length e2)) ∧ (w'.cell? ⟨b, off + j * 6, none⟩ = some (.int .i64 x.k) ∧ w'.cell? ⟨b, off + j * 6 + 1, none⟩ = some (.int .i64 x.n) ∧ w'.cell? ⟨b, off + j * 6 + 2, none⟩ = some (.int .i64 x.f) ∧ w'.cell? ⟨b, off + j * 6 + 3, none⟩ = some (.string x.s) ∧ w'.cell? ⟨b, off + j * 6 + 4, none⟩ = some (.slice p' x.l.length c') ∧ w'.cell? ⟨b, off + j * 6 + 5, none⟩ = some (.slice q' x.d.length e')) ∧ (w'.cell? ⟨bb, off2 + j * 6, none⟩ = some (.int .i64 y.k) ∧ w'.cell? ⟨bb, off2 + j * 6 + 1, none⟩ = some (.int .i64 y.n) ∧ w'.cell? ⟨bb, off2 + j * 6 + 2, none⟩ = some (.int .i64 y.f) ∧ w'.cell? ⟨bb, off2 + j * 6 + 3, none⟩ = some (.string y.s) ∧ w'.cell? ⟨bb, off2 + j * 6 + 4, none⟩ = some (.slice p2' y.l.length c2') ∧ w'.cell? ⟨bb, off2 + j * 6 + 5, none⟩ = some (.slice q2' y.d.length e2'))) (go_keep)
            (first | (go_at_call 22; (first | (with_reducible refine (IX.out _ (HXL.out.kept KX.out) (HYL.out.kept KX.out)).mono ?_) | (with_reducible refine (IX.out _ (HXL.out.kept KX.out.drew) (HYL.out.kept KX.out.drew)).mono ?_)); rintro e wn ⟨rfl, kn⟩; (first | (with_reducible have KX := Lib.hid (KX.out.trans kn)) | (with_reducible have KX := Lib.hid (KX.out.drew.trans kn))); obtain ⟨⟨t4, t5⟩, ⟨v4, v5⟩, ⟨y0, y1, y2, y3, y4, y5⟩, z0, z1, z2, z3, z4, z5⟩ := SK.out _ KX.out))
          all_goals
            go_wp2_with fail
            go_roundg (l.length - (j + 1))
            case measure => omega
            case rel => exact ⟨j + 1, rfl, by omega, by go_num, HIR.out.kept KX.out, HS1⟩
      · have HLL := Lib.hid (show l = l' from List.ext_getElem HLN.out fun i h1 h2 => HS.out i (by omega) h1 h2)
        clear HS
        go_wp2_with fail
        clear t0 t1 t2 t3 t4 t5 v0 v1 v2 v3 v4 v5
        go_loopg [6] (d.length) (fun m i wr => ∃ (j : Nat), m = d.length - j ∧ j ≤ d.length ∧ i = .int .i64 j ∧ In w [(w.heap.size + 1, #[.int .i64 k, .int .i64 n, .int .i64 f, .string s, .slice p2 l'.length c2, .slice q2 d'.length e2], 32), (w.heap.size, #[.int .i64 k, .int .i64 n, .int .i64 f, .string s, .slice p1 l.length c1, .slice q1 d.length e1], 32)] wr ∧ Hid (∀ i (h : i < j) (h1 : i < d.length) (h2 : i < d'.length), d[i] = d'[i]))
        case atStart => exact ⟨0, by omega, Nat.zero_le _, rfl, HIR.out, Lib.hid (fun i h => absurd h (Nat.not_lt_zero _))⟩
        case round =>
          clear HIR HK hlt
          obtain ⟨j, hm, hj, rfl, hI, HS⟩ := hrel
          have HIR := Lib.hid hI
          have HK := Lib.hid (In.k hI)
          obtain ⟨t0, t1, t2, t3, t4, t5⟩ := (HIR.out.mem (List.mem_cons_of_mem _ List.mem_cons_self)).cells6
          obtain ⟨v0, v1, v2, v3, v4, v5⟩ := (HIR.out.mem List.mem_cons_self).cells6
          clear hI
          by_cases hlt : j < d.length
          · have hlt2 : j < d'.length := by have := HDN.out; omega
            obtain ⟨ek, x, b, off, ⟨p', c', q', e'⟩, hxe, hp, -, hbl, hx, -, r0, y0, y1, y2, y3, y4, y5⟩ := (H1.out.kept HK.out).entry j hlt
            obtain ⟨ek2, y, bb, off2, ⟨p2', c2', q2', e2'⟩, hye, hp2, -, hbl2, hy, -, r1, z0, z1, z2, z3, z4, z5⟩ := (H2.out.kept HK.out).entry j hlt2
            simp only [Ob.d] at hxe hye
            simp only [] at hp hp2 y4 y5 z4 z5
            subst hp
            subst hp2
            have HXE := Lib.hid hxe
            have HYE := Lib.hid hye
            have HXL := Lib.hid hx
            have HYL := Lib.hid hy
            have KX := Lib.hid (Kept.refl wr)
            have IX0 := HID.out (ek, x) (by rw [← hxe]; exact List.getElem_mem hlt) y ⟨p', c', q', e'⟩ ⟨p2', c2', q2', e2'⟩
            unfold objV at IX0
            simp only [] at IX0
            obtain ⟨X, hX⟩ : ∃ X, X = ex x y := ⟨_, rfl⟩
            rw [← hX] at IX0
            have HX := Lib.hid hX
            have IX := Lib.hid IX0
            have SK := Lib.hid (show ∀ w', Kept wr w' → (w'.cell? ⟨w.heap.size, 4, none⟩ = some (.slice p1 l.length c1) ∧ w'.cell? ⟨w.heap.size, 5, none⟩ = some (.slice (some ⟨b, off, none⟩) d.length e1)) ∧ (w'.cell? ⟨w.heap.size + 1, 4, none⟩ = some (.slice p2 l'.length c2) ∧ w'.cell? ⟨w.heap.size + 1, 5, none⟩ = some (.slice (some ⟨bb, off2, none⟩) d'.length e2)) ∧ (w'.cell? ⟨b, off + j * 7, none⟩ = some (.string ek) ∧ w'.cell? ⟨b, off + j * 7 + 1, none⟩ = some (.int .i64 x.k) ∧ w'.cell? ⟨b, off + j * 7 + 2, none⟩ = some (.int .i64 x.n) ∧ w'.cell? ⟨b, off + j * 7 + 3, none⟩ = some (.int .i64 x.f) ∧ w'.cell? ⟨b, off + j * 7 + 4, none⟩ = some (.string x.s) ∧ w'.cell? ⟨b, off + j * 7 + 5, none⟩ = some (.slice p' x.l.length c') ∧ w'.cell? ⟨b, off + j * 7 + 6, none⟩ = some (.slice q' x.d.length e')) ∧ (w'.cell? ⟨bb, off2 + j * 7, none⟩ = some (.string ek2) ∧ w'.cell? ⟨bb, off2 + j * 7 + 1, none⟩ = some (.int .i64 y.k) ∧ w'.cell? ⟨bb, off2 + j * 7 + 2, none⟩ = some (.int .i64 y.n) ∧ w'.cell? ⟨bb, off2 + j * 7 + 3, none⟩ = some (.int .i64 y.f) ∧ w'.cell? ⟨bb, off2 + j * 7 + 4, none⟩ = some (.string y.s) ∧ w'.cell? ⟨bb, off2 + j * 7 + 5, none⟩ = some (.slice p2' y.l.length c2') ∧ w'.cell? ⟨bb, off2 + j * 7 + 6, none⟩ = some (.slice q2' y.d.length e2')) from fun w' k => by
              obtain ⟨_, _, _, _, a4, a5⟩ := ((HIR.out.mem (List.mem_cons_of_mem _ List.mem_cons_self)).kept k).cells6
              obtain ⟨_, _, _, _, b4, b5⟩ := ((HIR.out.mem List.mem_cons_self).kept k).cells6
              have K := (Kept.cells k).1
              exact ⟨⟨a4, a5⟩, ⟨b4, b5⟩, ⟨(K _ _ hbl).trans r0, (K _ _ hbl).trans y0, (K _ _ hbl).trans y1, (K _ _ hbl).trans y2, (K _ _ hbl).trans y3, (K _ _ hbl).trans y4, (K _ _ hbl).trans y5⟩, (K _ _ hbl2).trans r1, (K _ _ hbl2).trans z0, (K _ _ hbl2).trans z1, (K _ _ hbl2).trans z2, (K _ _ hbl2).trans z3, (K _ _ hbl2).trans z4, (K _ _ hbl2).trans z5⟩)
            clear IX0 hX hx hy hxe hye
            cases hkq : keq ek ek2
            · have hkq' : (ek.toList == ek2.toList) = false := hkq
              have HA := Lib.hid (show R = false by
                rw [HR.out]
                refine ex_no fun e => ?_
                injection e with _ _ _ _ _ e6
                have h1 : d[j] = d'[j] := by subst e6; rfl
                rw [HXE.out, HYE.out] at h1
                have h2 : ek = ek2 := congrArg Prod.fst h1
                rw [h2, keq_self] at hkq; cases hkq)
              clear hkq
              go_wp2_with fail
              go_quiet (fail)
              go_wp2_with fail
              go_ret
              exact ⟨ret_bool HA.out.symm, by
                have K0 := HK.out
                repeat (with_reducible first | exact K0 | refine Kept.drewN ?_ _ | refine Kept.drew ?_)⟩
            · have hkq' : (ek.toList == ek2.toList) = true := hkq
              have HKQ := Lib.hid hkq
              clear hkq
              cases X
              · have HA := Lib.hid (show R = false by
                  rw [HR.out]
                  refine ex_no fun e => ?_
                  injection e with _ _ _ _ _ e6
                  have h1 : d[j] = d'[j] := by subst e6; rfl
                  rw [HXE.out, HYE.out] at h1
                  have := HX.out
                  rw [ex_yes (congrArg Prod.snd h1)] at this; cases this)
                go_wp2_with fail
                go_region_held3 (fun w' => (w'.cell? ⟨w.heap.size, 4, none⟩ = some (.slice p1 l.length c1) ∧ w'.cell? ⟨w.heap.size, 5, none⟩ = some (.slice (some ⟨b, off, none⟩) d.length e1)) ∧ (w'.cell? ⟨w.heap.size + 1, 4, none⟩ = some (.slice p2 l'.length c2) ∧ w'.cell? ⟨w.heap.size + 1, 5, none⟩ = some (.slice (some ⟨bb, off2, none⟩) d'.length e2)) ∧ (w'.cell? ⟨b, off + j * 7, none⟩ = some (.string ek) ∧ w'.cell? ⟨b, off + j * 7 + 1, none⟩ = some (.int .i64 x.k) ∧ w'.cell? ⟨b, off + j * 7 + 2, none⟩ = some (.int .i64 x.n) ∧ w'.cell? ⟨b, off + j * 7 + 3, none⟩ = some (.int .i64 x.f) ∧ w'.cell? ⟨b, off + j * 7 + 4, none⟩ = some (.string x.s) ∧ w'.cell? ⟨b, off + j * 7 + 5, none⟩ = some (.slice p' x.l.length c') ∧ w'.cell? ⟨b, off + j * 7 + 6, none⟩ = some (.slice q' x.d.length e')) ∧ (w'.cell? ⟨bb, off2 + j * 7, none⟩ = some (.string ek2) ∧ w'.cell? ⟨bb, off2 + j * 7 + 1, none⟩ = some (.int .i64 y.k) ∧ w'.cell? ⟨bb, off2 + j * 7 + 2, none⟩ = some (.int .i64 y.n) ∧ w'.cell? ⟨bb, off2 + j * 7 + 3, none⟩ = some (.int .i64 y.f) ∧ w'.cell? ⟨bb, off2 + j * 7 + 4, none⟩ = some (.string y.s) ∧ w'.cell? ⟨bb, off2 + j * 7 + 5, none⟩ = some (.slice p2' y.l.length c2') ∧ w'.cell? ⟨bb, off2 + j * 7 + 6, none⟩ = some (.slice q2' y.d.length e2'))) (go_keep)
                  (first | (go_at_call 22; (first | (with_reducible refine (IX.out _ (HXL.out.kept KX.out) (HYL.out.kept KX.out)).mono ?_) | (with_reducible refine (IX.out _ (HXL.out.kept KX.out.drew) (HYL.out.kept KX.out.drew)).mono ?_)); rintro e wn ⟨rfl, kn⟩; (first | (with_reducible have KX := Lib.hid (KX.out.trans kn)) | (with_reducible have KX := Lib.hid (KX.out.drew.trans kn))); obtain ⟨⟨t4, t5⟩, ⟨v4, v5⟩, ⟨r0, y0, y1, y2, y3, y4, y5⟩, r1, z0, z1, z2, z3, z4, z5⟩ := SK.out _ KX.out))
                all_goals
                  go_wp2_with fail
                  go_ret
                  exact ⟨ret_bool HA.out.symm, HK.out.trans KX.out⟩
              · have HS1 := Lib.hid (show ∀ i (h : i < j + 1) (h1 : i < d.length) (h2 : i < d'.length), d[i] = d'[i] from fun i h h1 h2 => by
                  by_cases hij : i < j
                  · exact HS.out i hij h1 h2
                  · obtain rfl : i = j := by omega
                    rw [HXE.out, HYE.out, keq_iff.1 HKQ.out, ex_iff.1 HX.out.symm])
                go_wp2_with fail
                go_region_held3 (fun w' => (w'.cell? ⟨w.heap.size, 4, none⟩ = some (.slice p1 l.length c1) ∧ w'.cell? ⟨w.heap.size, 5, none⟩ = some (.slice (some ⟨b, off, none⟩) d.length e1)) ∧ (w'.cell? ⟨w.heap.size + 1, 4, none⟩ = some (.slice p2 l'.length c2) ∧ w'.cell? ⟨w.heap.size + 1, 5, none⟩ = some (.slice (some ⟨bb, off2, none⟩) d'.length e2)) ∧ (w'.cell? ⟨b, off + j * 7, none⟩ = some (.string ek) ∧ w'.cell? ⟨b, off + j * 7 + 1, none⟩ = some (.int .i64 x.k) ∧ w'.cell? ⟨b, off + j * 7 + 2, none⟩ = some (.int .i64 x.n) ∧ w'.cell? ⟨b, off + j * 7 + 3, none⟩ = some (.int .i64 x.f) ∧ w'.cell? ⟨b, off + j * 7 + 4, none⟩ = some (.string x.s) ∧ w'.cell? ⟨b, off + j * 7 + 5, none⟩ = some (.slice p' x.l.length c') ∧ w'.cell? ⟨b, off + j * 7 + 6, none⟩ = some (.slice q' x.d.length e')) ∧ (w'.cell? ⟨bb, off2 + j * 7, none⟩ = some (.string ek2) ∧ w'.cell? ⟨bb, off2 + j * 7 + 1, none⟩ = some (.int .i64 y.k) ∧ w'.cell? ⟨bb, off2 + j * 7 + 2, none⟩ = some (.int .i64 y.n) ∧ w'.cell? ⟨bb, off2 + j * 7 + 3, none⟩ = some (.int .i64 y.f) ∧ w'.cell? ⟨bb, off2 + j * 7 + 4, none⟩ = some (.string y.s) ∧ w'.cell? ⟨bb, off2 + j * 7 + 5, none⟩ = some (.slice p2' y.l.length c2') ∧ w'.cell? ⟨bb, off2 + j * 7 + 6, none⟩ = some (.slice q2' y.d.length e2'))) (go_keep)
                  (first | (go_at_call 22; (first | (with_reducible refine (IX.out _ (HXL.out.kept KX.out) (HYL.out.kept KX.out)).mono ?_) | (with_reducible refine (IX.out _ (HXL.out.kept KX.out.drew) (HYL.out.kept KX.out.drew)).mono ?_)); rintro e wn ⟨rfl, kn⟩; (first | (with_reducible have KX := Lib.hid (KX.out.trans kn)) | (with_reducible have KX := Lib.hid (KX.out.drew.trans kn))); obtain ⟨⟨t4, t5⟩, ⟨v4, v5⟩, ⟨r0, y0, y1, y2, y3, y4, y5⟩, r1, z0, z1, z2, z3, z4, z5⟩ := SK.out _ KX.out))
                all_goals
                  go_wp2_with fail
                  go_roundg (d.length - (j + 1))
                  case measure => omega
                  case rel => exact ⟨j + 1, rfl, by omega, by go_num, HIR.out.kept KX.out, HS1⟩
          · have HA := Lib.hid (show R = true by
              rw [HR.out]
              refine ex_yes ?_
              rw [HLL.out, show d = d' from List.ext_getElem HDN.out fun i h1 h2 => HS.out i (by omega) h1 h2])
            go_wp2_with fail
            go_ret
            exact ⟨ret_bool HA.out.symm, HK.out⟩
  · have HA := Lib.hid (show R = false by rw [HR.out]; exact ex_no fun e => ha (by injection e with e1 e2 e3 e4 e5 e6; exact ⟨e1, e2, e3, e4, by rw [e5], by rw [e6]⟩))
    by_cases hk : k = k'
    · have hk' : (k != k') = false := by rw [hk]; exact bne_self_eq_false _
      by_cases hn : n = n'
      · have hn' : (n != n') = false := by rw [hn]; exact bne_self_eq_false _
        by_cases hf : f = f'
        · have hf' : (f != f') = false := by rw [hf]; exact bne_self_eq_false _
          cases hs : keq s s'
          · have hs' : (s.toList == s'.toList) = false := hs
            clear hk hn hf ha hs
            go_enter Tryz.func22, Tryz.ntmps22
            go_wp2_with fail
            go_ret
            exact ⟨ret_bool HA.out.symm, KI.out⟩
          · have hs' : (s.toList == s'.toList) = true := hs
            by_cases hl : l.length = l'.length
            · have hl' : ((l.length : Int) != (l'.length : Int)) = false := by rw [hl]; exact bne_self_eq_false _
              have hd' : ((d.length : Int) != (d'.length : Int)) = true := by
                rw [bne_iff_ne]; intro e; exact ha ⟨hk, hn, hf, keq_iff.1 hs, hl, by omega⟩
              clear hk hn hf ha hs hl
              go_enter Tryz.func22, Tryz.ntmps22
              go_wp2_with fail
              go_ret
              exact ⟨ret_bool HA.out.symm, KI.out⟩
            · have hl' : ((l.length : Int) != (l'.length : Int)) = true := by rw [bne_iff_ne]; omega
              clear hk hn hf ha hs hl
              go_enter Tryz.func22, Tryz.ntmps22
              go_wp2_with fail
              go_ret
              exact ⟨ret_bool HA.out.symm, KI.out⟩
        · have hf' : (f != f') = true := by rw [bne_iff_ne]; exact hf
          clear hk hn hf ha
          go_enter Tryz.func22, Tryz.ntmps22
          go_wp2_with fail
          go_ret
          exact ⟨ret_bool HA.out.symm, KI.out⟩
      · have hn' : (n != n') = true := by rw [bne_iff_ne]; exact hn
        clear hk hn ha
        go_enter Tryz.func22, Tryz.ntmps22
        go_wp2_with fail
        go_ret
        exact ⟨ret_bool HA.out.symm, KI.out⟩
    · have hk' : (k != k') = true := by rw [bne_iff_ne]; exact hk
      clear hk ha
      go_enter Tryz.func22, Tryz.ntmps22
      go_wp2_with fail
      go_ret
      exact ⟨ret_bool HA.out.symm, KI.out⟩

theorem exact_any (P : Nat → Prop) (N : Nat) : ∀ (x : Ob), SizeOf.sizeOf x ≤ N → ExC P x := by
  induction N with
  | zero =>
    intro x hN
    cases x; simp at hN
  | succ N ih =>
    intro x hN
    exact Exact_step P x (fun z hz => ih z (by have := sizeOf_l hz; omega)) (fun e he => ih e.2 (by have := sizeOf_d he; omega))
theorem Exact_any (P : Nat → Prop) (x y : Ob) (hx hy : Hd) (w : World) (h1 : Lies (Cel P w) x hx) (h2 : Lies (Cel P w) y hy) :
    Calls Tryz.prog 22 #[objV x hx, objV y hy] w fun e w' => e = .returned (.bool (ex x y)) ∧ Kept w w' :=
  exact_any P _ x (Nat.le_refl _) y hx hy w h1 h2

end Go.Proofs.YtkpagahnmbchjaaGreatDoor
