/-
  The law WriteBack answers true.
-/
import Derived.Test.YthpbipaekmedaaaGreatDoorWbPlain
import Derived.Test.YthpbipaekmedaaaGreatDoorWritePartsWalk
import Derived.Test.YthpbipaekmedaaaGreatDoorCosP
import Derived.Test.YthpbipaekmedaaaGreatDoorCosD
namespace Go.Proofs.YthpbipaekmedaaaGreatDoor
open Go.RowKit Cx
set_option linter.unusedSimpArgs false
set_option linter.unusedVariables false

theorem objT_bad {x : Ob} (h : objE x ≠ 0) : objT x = [] ∧ (objE x = x.sane 0 ∨ x.k = 8) := by
  unfold objT
  unfold objE at h ⊢
  by_cases h0 : x.sane 0 = 0
  · by_cases h8 : x.k = 8
    · exact ⟨by first | rw [if_neg (fun g => g h0), if_pos h8] | simp [h0, h8], .inr h8⟩
    · exact absurd (by first | rw [if_neg (fun g => g h0), if_neg h8] | simp [h0, h8]) h
  · exact ⟨by first | rw [if_pos h0] | simp [h0], .inl (by first | rw [if_pos h0] | simp [h0])⟩

set_option maxRecDepth 100000 in
set_option maxHeartbeats 8000000 in
theorem WriteBack_walk (o : Ob) (h : Hd) (w : World) (hf : Fine w) (hl : Lies (Cel (fun _ => True) w) o h) (hfit : Ob.Fits 140737488355328 o) (hwd : Ob.Words o) :
    Calls Tryz.prog 3 #[objV o h] w fun e w' => e = .returned (.bool true) ∧ Kept w w' := by
  have HF := Lib.hid hf
  have LO := Lib.hid hl
  have FO := Lib.hid (fun w' (k : Kept w w') => Few_any _ o h 3000 w' (hl.kept k) hfit (by omega) (by omega))
  have PO := Lib.hid (fun w' (k : Kept w w') => plain_any _ o h w' (hl.kept k))
  have SO := Lib.hid (fun w' (k : Kept w w') => SaneW_any _ o h w' (hl.kept k))
  have WO := Lib.hid (fun h => few_le o 3000 0 h)
  have OO := Lib.hid (ok_of _ o (Nat.le_refl _) hwd)
  have TO := Lib.hid (fun hk => text_le _ o (Nat.le_refl _) hk)
  have B1 := Lib.hid (Blk.fresh w #[.int .i64 o.k, .int .i64 o.n, .int .i64 o.f, .string o.s, .slice h.p o.l.length h.c, .slice h.q o.d.length h.e] 26)
  have K1 := Lib.hid ((Kept.refl w).alloc #[.int .i64 o.k, .int .i64 o.n, .int .i64 o.f, .string o.s, .slice h.p o.l.length h.c, .slice h.q o.d.length h.e] 26)
  have AW := Lib.hid (awake5_any _ (hf.kept K1.out))
  clear hf hl hfit hwd
  obtain ⟨op, oc, oq, oe⟩ := h
  unfold objV at FO PO SO ⊢
  simp only [] at FO PO SO B1 K1 AW ⊢
  obtain ⟨y, hy⟩ : ∃ y, y = decide (0 ≤ few o 3000 0) := ⟨_, rfl⟩
  rw [← hy] at FO
  have HY := Lib.hid hy
  obtain ⟨z, hz⟩ : ∃ z, z = ex o.norm o := ⟨_, rfl⟩
  rw [← hz] at PO
  have HZ := Lib.hid hz
  obtain ⟨S, hS⟩ : ∃ S, S = o.sane 0 := ⟨_, rfl⟩
  rw [← hS] at SO
  have HS := Lib.hid hS
  clear hy hz hS
  go_enter Tryz.func3, Tryz.ntmps3
  go_wp2_with fail
  (with_reducible refine AW.out.mono ?_)
  rintro e w1 ⟨rfl, hk1⟩
  have KA := Lib.hid (K1.out.trans hk1)
  have BA := Lib.hid (B1.out.kept hk1)
  obtain ⟨r0, r1, r2, r3, r4, r5⟩ := BA.out.cells6
  clear hk1 AW
  cases y
  · go_wp2_with fail
    (with_reducible refine (FO.out _ KA.out).mono ?_)
    rintro e w2 ⟨rfl, hk2⟩
    have K2 := Lib.hid (KA.out.trans hk2)
    clear hk2
    go_wp2_with fail
    go_ret
    exact ⟨rfl, K2.out⟩
  · have WO1 := Lib.hid (WO.out (of_decide_eq_true HY.out.symm))
    have OK1 := Lib.hid (OO.out (by have := WO1.out; omega))
    have TL := Lib.hid (show o.text.length ≤ 600000 from by have := TO.out OK1.out; have := WO1.out; omega)
    clear OO TO
    go_wp2_with fail
    (with_reducible refine (FO.out _ KA.out).mono ?_)
    rintro e w2 ⟨rfl, hk2⟩
    have K2 := Lib.hid (KA.out.trans hk2)
    have B2 := Lib.hid (BA.out.kept hk2)
    clear hk2 r0 r1 r2 r3 r4 r5
    obtain ⟨r0, r1, r2, r3, r4, r5⟩ := B2.out.cells6
    cases z
    · go_wp2_with fail
      (with_reducible refine (PO.out _ K2.out).mono ?_)
      rintro e w3 ⟨rfl, hk3⟩
      have K3 := Lib.hid (K2.out.trans hk3)
      clear hk3
      go_wp2_with fail
      go_ret
      exact ⟨rfl, K3.out⟩
    · have HN := Lib.hid (show o.norm = o from ex_iff.1 HZ.out.symm)
      have CO := Lib.hid (fun w' (k : Kept w w') (P : Nat → Prop) (h' : Hd) (hl' : Lies (Cel P w') o h') => ObjectW_any P o h' w' hl' (HF.out.kept k) (fun _ => OK1.out) (fun _ => by have := TL.out; omega))
      have CO1 := Lib.hid (fun w' (k : Kept w w') => CO.out w' k (fun _ => True) ⟨op, oc, oq, oe⟩ (LO.out.kept k))
      unfold objV at CO1
      simp only [] at CO1
      go_wp2_with fail
      (with_reducible refine (PO.out _ K2.out).mono ?_)
      rintro e w3 ⟨rfl, hk3⟩
      have K3 := Lib.hid (K2.out.trans hk3)
      have B3 := Lib.hid (B2.out.kept hk3)
      clear hk3 r0 r1 r2 r3 r4 r5
      obtain ⟨r0, r1, r2, r3, r4, r5⟩ := B3.out.cells6
      by_cases hE : objE o = 0
      · have h0 := objE_zero.1 hE
        have HPB := Lib.hid (show parse (o.text) 0 = (0, o, o.text.length) from by
          have := parse_back h0.1 h0.2 [] [] aft_nil
          simpa [HN.out] using this)
        obtain ⟨T, hT⟩ : ∃ T : ByteArray, T = ⟨o.text.toArray⟩ := ⟨_, rfl⟩
        have HTS := Lib.hid (show T.size = o.text.length from by rw [hT]; show o.text.toArray.size = _; simp)
        have HTL := Lib.hid (show T.data.toList = o.text from by rw [hT])
        have CO2 := Lib.hid (fun w' (k : Kept w w') => show Calls Tryz.prog 7 #[.agg #[.int .i64 o.k, .int .i64 o.n, .int .i64 o.f, .string o.s, .slice op o.l.length oc, .slice oq o.d.length oe]] w' fun e w'' => e = .returned (.tuple #[.string T, .int .i64 0]) ∧ Kept w' w'' from by
          have := CO1.out w' k
          rwa [objT_good hE, hE, ← hT] at this)
        have CO3 := Lib.hid (fun w' (k : Kept w w') (P : Nat → Prop) (pp : Option Addr) (pc : Nat) (pq : Option Addr) (pe : Nat) (hl' : Lies (Cel P w') o ⟨pp, pc, pq, pe⟩) => show Calls Tryz.prog 7 #[.agg #[.int .i64 o.k, .int .i64 o.n, .int .i64 o.f, .string o.s, .slice pp o.l.length pc, .slice pq o.d.length pe]] w' fun e w'' => e = .returned (.tuple #[.string T, .int .i64 0]) ∧ Kept w' w'' from by
          have := CO.out w' k P _ hl'
          rw [objT_good hE, hE, ← hT] at this
          exact this)
        have CP := Lib.hid (fun w' (k : Kept w w') => show Calls Tryz.prog 9 #[.string T, .int .i64 0] w' fun e w'' => ∃ h', e = .returned (.tuple #[objV o h', .int .i64 (T.size : Int), .int .i64 0]) ∧ Kept w' w'' ∧ Lies (Cel (fun b => w'.heap.size ≤ b) w'') o h' from
          cosParse_any settled_any T 0 w' (by have := HTS.out; have := TL.out; omega) (HF.out.kept k).1 (0, o, T.size) (by rw [HTL.out, HPB.out, HTS.out]))
        have CX := Lib.hid (fun w' (k : Kept w w') (pp : Option Addr) (pc : Nat) (pq : Option Addr) (pe : Nat) (hl' : Lies (Cel (fun _ => True) w') o ⟨pp, pc, pq, pe⟩) => show Calls Tryz.prog 10 #[.agg #[.int .i64 o.k, .int .i64 o.n, .int .i64 o.f, .string o.s, .slice pp o.l.length pc, .slice pq o.d.length pe], .agg #[.int .i64 o.k, .int .i64 o.n, .int .i64 o.f, .string o.s, .slice op o.l.length oc, .slice oq o.d.length oe]] w' fun e w'' => e = .returned (.bool true) ∧ Kept w' w'' from by
          have := Exact_any _ o o ⟨pp, pc, pq, pe⟩ ⟨op, oc, oq, oe⟩ w' hl' (LO.out.kept k)
          rwa [ex_yes rfl] at this)
        clear hT CO CO1 hE h0 HPB
        go_wp2_with fail
        (with_reducible refine (CO2.out _ K3.out).mono ?_)
        rintro e w4 ⟨rfl, hk4⟩
        have K4 := Lib.hid (K3.out.trans hk4)
        have B4 := Lib.hid (B3.out.kept hk4)
        clear hk4 CO2 r0 r1 r2 r3 r4 r5
        obtain ⟨r0, r1, r2, r3, r4, r5⟩ := B4.out.cells6
        go_wp2_with fail
        (with_reducible refine (CP.out _ K4.out).mono ?_)
        rintro e w5 ⟨⟨pp, pc, pq, pe⟩, rfl, hk5, hl5⟩
        have K5 := Lib.hid (K4.out.trans hk5)
        have B5 := Lib.hid (B4.out.kept hk5)
        have L5 := Lib.hid hl5
        unfold objV
        simp only []
        clear hk5 hl5 CP r0 r1 r2 r3 r4 r5
        obtain ⟨r0, r1, r2, r3, r4, r5⟩ := B5.out.cells6
        go_wp2_with fail
        have B6 := Lib.hid (B5.out.alloc (.cells #[.int .i64 o.k, .int .i64 o.n, .int .i64 o.f, .string o.s, .slice pp o.l.length pc, .slice pq o.d.length pe] 26))
        have K6 := Lib.hid (K5.out.alloc #[.int .i64 o.k, .int .i64 o.n, .int .i64 o.f, .string o.s, .slice pp o.l.length pc, .slice pq o.d.length pe] 26)
        have P6 := Lib.hid (Blk.fresh w5 #[.int .i64 o.k, .int .i64 o.n, .int .i64 o.f, .string o.s, .slice pp o.l.length pc, .slice pq o.d.length pe] 26)
        have L6 := Lib.hid (L5.out.alloc (.cells #[.int .i64 o.k, .int .i64 o.n, .int .i64 o.f, .string o.s, .slice pp o.l.length pc, .slice pq o.d.length pe] 26))
        (with_reducible refine (CO3.out _ K6.out _ _ _ _ _ L6.out).mono ?_)
        rintro e w7 ⟨rfl, hk7⟩
        have K7 := Lib.hid (K6.out.trans hk7)
        have B7 := Lib.hid (B6.out.kept hk7)
        have P7 := Lib.hid (P6.out.kept hk7)
        have L7 := Lib.hid ((L6.out.kept hk7).weak (P' := fun _ => True) (fun _ _ => trivial))
        clear hk7 CO3 r0 r1 r2 r3 r4 r5
        obtain ⟨r0, r1, r2, r3, r4, r5⟩ := B7.out.cells6
        obtain ⟨q0, q1, q2, q3, q4, q5⟩ := P7.out.cells6
        go_wp2_with fail
        (with_reducible refine (CX.out _ K7.out _ _ _ _ L7.out).mono ?_)
        rintro e w8 ⟨rfl, hk8⟩
        have K8 := Lib.hid (K7.out.trans hk8)
        clear hk8
        go_wp2_with fail
        go_ret
        exact ⟨rfl, K8.out⟩
      · obtain ⟨hT0, hor⟩ := objT_bad hE
        have CO2 := Lib.hid (fun w' (k : Kept w w') => show Calls Tryz.prog 7 #[.agg #[.int .i64 o.k, .int .i64 o.n, .int .i64 o.f, .string o.s, .slice op o.l.length oc, .slice oq o.d.length oe]] w' fun e w'' => e = .returned (.tuple #[.string ⟨#[]⟩, .int .i64 (objE o)]) ∧ Kept w' w'' from by
          have := CO1.out w' k
          rwa [hT0] at this)
        obtain ⟨E, hEE⟩ : ∃ E, E = objE o := ⟨_, rfl⟩
        rw [← hEE] at CO2 hE hor
        have hne : (E != 0) = true := by simpa using hE
        have HOR := Lib.hid (show E = S ∨ o.k = 8 by rw [HS.out]; exact hor)
        clear CO CO1 hE hor hT0 hEE
        go_wp2_with fail
        (with_reducible refine (CO2.out _ K3.out).mono ?_)
        rintro e w4 ⟨rfl, hk4⟩
        have K4 := Lib.hid (K3.out.trans hk4)
        have B4 := Lib.hid (B3.out.kept hk4)
        clear hk4 CO2 r0 r1 r2 r3 r4 r5
        obtain ⟨r0, r1, r2, r3, r4, r5⟩ := B4.out.cells6
        by_cases hes : E = S
        · subst hes
          go_wp2_with fail
          (with_reducible refine (SO.out _ K4.out).mono ?_)
          rintro e w5 ⟨rfl, hk5⟩
          have K5 := Lib.hid (K4.out.trans hk5)
          clear hk5
          go_wp2_with fail
          go_ret
          exact ⟨rfl, K5.out⟩
        · have h8 : o.k = 8 := by
            rcases HOR.out with h | h
            · exact absurd h hes
            · exact h
          have hk8 : (o.k == 8) = true := by rw [h8]; rfl
          have hes' : (E == S) = false := beq_eq_false_iff_ne.2 hes
          clear h8 hes
          go_wp2_with fail
          (with_reducible refine (SO.out _ K4.out).mono ?_)
          rintro e w5 ⟨rfl, hk5⟩
          have K5 := Lib.hid (K4.out.trans hk5)
          have B5 := Lib.hid (B4.out.kept hk5)
          clear hk5 r0 r1 r2 r3 r4 r5
          obtain ⟨r0, r1, r2, r3, r4, r5⟩ := B5.out.cells6
          go_wp2_with fail
          go_ret
          exact ⟨rfl, K5.out⟩

end Go.Proofs.YthpbipaekmedaaaGreatDoor
