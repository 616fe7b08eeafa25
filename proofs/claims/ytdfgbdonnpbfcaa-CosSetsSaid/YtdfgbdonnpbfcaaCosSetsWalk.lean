/-
  The law CosSets, walked.
-/
import Derived.Test.YtdfgbdonnpbfcaaCosAwake
import Derived.Test.YtdfgbdonnpbfcaaCosFew
import Derived.Test.YtdfgbdonnpbfcaaCosExact
import Derived.Test.YtdfgbdonnpbfcaaCosMath
import Derived.Deep.DeepCutAuto
namespace Go.Proofs.Ytdfgbdonnpbfcaa
open Go.RowKit Cx
set_option linter.unusedSimpArgs false
set_option linter.unusedVariables false

theorem field_K (a b c : Int) (s : ByteArray) (p q : Option Addr) (n m x y : Nat) (w : World) : (Instr.field 26 (.agg #[.int .i64 a, .int .i64 b, .int .i64 c, .string s, .slice p n x, .slice q m y]) 0).run Try.prog w = .ok (.int .i64 a) w := by
  simp [Instr.field, run_underlying Try.underlying26, asAgg, go_sem]

/-- Numbers of letters for an object's six cells. -/
theorem objV_nul (h : Hd) : objV nul h = .agg #[.int .i64 0, .int .i64 0, .int .i64 0, .string ⟨#[]⟩, .slice h.p 0 h.c, .slice h.q 0 h.e] := rfl

set_option maxRecDepth 100000 in
set_option maxHeartbeats 4000000 in
theorem cosSetsLaw_any (o : Ob) (ho : Hd) (key other : ByteArray) (v : Ob) (hv : Hd) (w : World) (hm : HasMax w) (hlo : Lies (Cel (fun _ => True) w) o ho) (hfo : Ob.Fits 140737488355328 o) (hks : key.size ≤ 140737488355328) (hos : other.size ≤ 140737488355328) (hlv : Lies (Cel (fun _ => True) w) v hv) (hfv : Ob.Fits 140737488355328 v) :
    Calls Try.prog 3 #[objV o ho, .string key, .string other, objV v hv] w fun e w' => e = .returned (.bool true) ∧ Kept w w' := by
  have HM := Lib.hid hm
  have LO := Lib.hid hlo
  have LV := Lib.hid hlv
  have FO := Lib.hid (fun w' (k : Kept w w') => Few_any _ o ho 2000 w' (hlo.kept k) hfo (by omega) (by omega))
  have FV := Lib.hid (fun w' (k : Kept w w') => Few_any _ v hv 2000 w' (hlv.kept k) hfv (by omega) (by omega))
  have WO := Lib.hid (fun h => few_le o 2000 0 h)
  have WV := Lib.hid (fun h => few_le v 2000 0 h)
  obtain ⟨po, co, qo, eo⟩ := ho
  obtain ⟨pv, cv, qv, ev⟩ := hv
  have HX := Lib.hid (In.fresh' (k := w.heap.size + 1) (In.fresh (In.start w) #[.int .i64 o.k, .int .i64 o.n, .int .i64 o.f, .string o.s, .slice po o.l.length co, .slice qo o.d.length eo] 26) #[.int .i64 v.k, .int .i64 v.n, .int .i64 v.f, .string v.s, .slice pv v.l.length cv, .slice qv v.d.length ev] 26 (by simp))
  have KX := Lib.hid (In.k HX.out)
  have HMX := Lib.hid (hm.kept KX.out)
  clear hm hlo hlv hfo hfv
  unfold objV at FO FV ⊢
  simp only [] at FO FV
  obtain ⟨yo, hyo⟩ : ∃ yo, yo = decide (0 ≤ few o 2000 0) := ⟨_, rfl⟩
  obtain ⟨yv, hyv⟩ : ∃ yv, yv = decide (0 ≤ few v 2000 0) := ⟨_, rfl⟩
  rw [← hyo] at FO
  rw [← hyv] at FV
  have HYO := Lib.hid hyo
  have HYV := Lib.hid hyv
  clear hyo hyv
  go_enter Try.func3, Try.ntmps3
  go_wp2_with fail
  (with_reducible refine (cosAwake_any _ HMX.out).mono ?_)
  rintro e w1 ⟨rfl, hk1⟩
  have HX1 := Lib.hid (HX.out.kept hk1)
  have K1 := Lib.hid (In.k HX1.out)
  obtain ⟨t0, t1, t2, t3, t4, t5⟩ := (HX1.out.mem (List.mem_cons_of_mem _ List.mem_cons_self)).cells6
  obtain ⟨v0, v1, v2, v3, v4, v5⟩ := (HX1.out.mem List.mem_cons_self).cells6
  clear hk1
  cases yo
  · go_wp2_with fail
    (with_reducible refine (FO.out _ K1.out).mono ?_)
    rintro e w2 ⟨rfl, hk2⟩
    have K2 := Lib.hid (K1.out.trans hk2)
    clear hk2
    go_wp2_with fail
    go_ret
    exact ⟨rfl, K2.out⟩
  · go_wp2_with fail
    (with_reducible refine (FO.out _ K1.out).mono ?_)
    rintro e w2 ⟨rfl, hk2⟩
    have HX2 := Lib.hid (HX1.out.kept hk2)
    have K2 := Lib.hid (In.k HX2.out)
    have WO1 := Lib.hid (WO.out (of_decide_eq_true HYO.out.symm))
    clear t0 t1 t2 t3 t4 t5 v0 v1 v2 v3 v4 v5
    obtain ⟨t0, t1, t2, t3, t4, t5⟩ := (HX2.out.mem (List.mem_cons_of_mem _ List.mem_cons_self)).cells6
    obtain ⟨v0, v1, v2, v3, v4, v5⟩ := (HX2.out.mem List.mem_cons_self).cells6
    clear hk2
    cases yv
    · go_wp2_with fail
      (with_reducible refine (FV.out _ K2.out).mono ?_)
      rintro e w3 ⟨rfl, hk3⟩
      have K3 := Lib.hid (K2.out.trans hk3)
      clear hk3
      go_wp2_with fail
      go_ret
      exact ⟨rfl, K3.out⟩
    · go_wp2_with fail
      (with_reducible refine (FV.out _ K2.out).mono ?_)
      rintro e w3 ⟨rfl, hk3⟩
      have HX3 := Lib.hid (HX2.out.kept hk3)
      have K3 := Lib.hid (In.k HX3.out)
      have WV1 := Lib.hid (WV.out (of_decide_eq_true HYV.out.symm))
      clear t0 t1 t2 t3 t4 t5 v0 v1 v2 v3 v4 v5
      obtain ⟨t0, t1, t2, t3, t4, t5⟩ := (HX3.out.mem (List.mem_cons_of_mem _ List.mem_cons_self)).cells6
      obtain ⟨v0, v1, v2, v3, v4, v5⟩ := (HX3.out.mem List.mem_cons_self).cells6
      clear hk3
      by_cases hkey : 300 < key.size + other.size
      · go_wp2_with fail
        go_ret
        exact ⟨rfl, K3.out⟩
      · have z0 := (HX3.out.mem (List.mem_cons_of_mem _ List.mem_cons_self)).lt
        have z1 := (HX3.out.mem List.mem_cons_self).lt
        obtain ⟨B0, hB0⟩ : ∃ B0, B0 = w.heap.size + 1 := ⟨_, rfl⟩
        rw [← hB0] at HX3 z1 v0 v1 v2 v3 v4 v5 ⊢
        obtain ⟨A0, hA0⟩ : ∃ A0, A0 = w.heap.size := ⟨_, rfl⟩
        rw [← hA0] at HX3 z0 t0 t1 t2 t3 t4 t5 ⊢
        clear hA0 hB0 HX HX1 HX2 KX K1 K2 HMX
        have hks' : key.size ≤ maxLen := by unfold maxLen; omega
        have hsum : key.size + other.size ≤ 300 := by omega
        clear hkey
        have hod : o.d.length ≤ 1048576 := by have h1 := (wt_len o).2.1; have h2 := WO1.out; omega
        cases hen : o.ents
        · -- no dictionary
          have h6 : (o.k != 6) = true := by unfold Ob.ents at hen; rw [Bool.or_eq_false_iff] at hen; rw [bne, hen.1]; rfl
          have h8 : (o.k != 8) = true := by unfold Ob.ents at hen; rw [Bool.or_eq_false_iff] at hen; rw [bne, hen.2]; rfl
          have C1 := Lib.hid (show ∀ w', Kept w3 w' → Calls Try.prog 10 #[.agg #[.int .i64 o.k, .int .i64 o.n, .int .i64 o.f, .string o.s, .slice po o.l.length co, .slice qo o.d.length eo], .string key, .agg #[.int .i64 v.k, .int .i64 v.n, .int .i64 v.f, .string v.s, .slice pv v.l.length cv, .slice qv v.d.length ev]] w' fun e w'' => ∃ p c q d, e = .returned (.agg #[.int .i64 o.k, .int .i64 o.n, .int .i64 o.f, .string o.s, .slice p o.l.length c, .slice q o.d.length d]) ∧ Kept w' w'' ∧ Lies (Cel (fun _ => True) w'') o ⟨p, c, q, d⟩ from fun w' k => by
            have h := cosSet_any (fun _ => True) o _ key v _ w' (LO.out.kept (K3.out.trans k)) (LV.out.kept (K3.out.trans k)) hks' hod
            rw [set_plain o key v hen] at h
            exact h.mono fun _ _ ⟨⟨p, c, q, d⟩, he, hk, hl⟩ => ⟨p, c, q, d, he, hk, hl.weak fun _ _ => trivial⟩)
          have C2 := Lib.hid (show ∀ w', Kept w3 w' → ∀ p c q d, Lies (Cel (fun _ => True) w') o ⟨p, c, q, d⟩ → Calls Try.prog 9 #[.agg #[.int .i64 o.k, .int .i64 o.n, .int .i64 o.f, .string o.s, .slice p o.l.length c, .slice q o.d.length d], .agg #[.int .i64 o.k, .int .i64 o.n, .int .i64 o.f, .string o.s, .slice po o.l.length co, .slice qo o.d.length eo]] w' fun e w'' => e = .returned (.bool true) ∧ Kept w' w'' from fun w' k p c q d hl => by
            have h := Exact_any (fun _ => True) o o ⟨p, c, q, d⟩ _ w' hl (LO.out.kept (K3.out.trans k))
            rw [ex_yes rfl] at h; exact h)
          have SK := Lib.hid (show ∀ w', Kept w3 w' → (w'.cell? ⟨A0, 0, none⟩ = some (.int .i64 o.k) ∧ w'.cell? ⟨A0, 1, none⟩ = some (.int .i64 o.n) ∧ w'.cell? ⟨A0, 2, none⟩ = some (.int .i64 o.f) ∧ w'.cell? ⟨A0, 3, none⟩ = some (.string o.s) ∧ w'.cell? ⟨A0, 4, none⟩ = some (.slice po o.l.length co) ∧ w'.cell? ⟨A0, 5, none⟩ = some (.slice qo o.d.length eo)) ∧ (w'.cell? ⟨B0, 0, none⟩ = some (.int .i64 v.k) ∧ w'.cell? ⟨B0, 1, none⟩ = some (.int .i64 v.n) ∧ w'.cell? ⟨B0, 2, none⟩ = some (.int .i64 v.f) ∧ w'.cell? ⟨B0, 3, none⟩ = some (.string v.s) ∧ w'.cell? ⟨B0, 4, none⟩ = some (.slice pv v.l.length cv) ∧ w'.cell? ⟨B0, 5, none⟩ = some (.slice qv v.d.length ev)) from fun w' k => ⟨((HX3.out.mem (List.mem_cons_of_mem _ List.mem_cons_self)).kept k).cells6, ((HX3.out.mem List.mem_cons_self).kept k).cells6⟩)
          have KX := Lib.hid (Kept.refl w3)
          clear hen HX3 LO LV FO FV WO WV WO1 WV1 HYO HYV hks hos hks' hod
          go_wp2_with fail
          go_region_held3 (fun w' => (w'.cell? ⟨A0, 0, none⟩ = some (.int .i64 o.k) ∧ w'.cell? ⟨A0, 1, none⟩ = some (.int .i64 o.n) ∧ w'.cell? ⟨A0, 2, none⟩ = some (.int .i64 o.f) ∧ w'.cell? ⟨A0, 3, none⟩ = some (.string o.s) ∧ w'.cell? ⟨A0, 4, none⟩ = some (.slice po o.l.length co) ∧ w'.cell? ⟨A0, 5, none⟩ = some (.slice qo o.d.length eo)) ∧ (w'.cell? ⟨B0, 0, none⟩ = some (.int .i64 v.k) ∧ w'.cell? ⟨B0, 1, none⟩ = some (.int .i64 v.n) ∧ w'.cell? ⟨B0, 2, none⟩ = some (.int .i64 v.f) ∧ w'.cell? ⟨B0, 3, none⟩ = some (.string v.s) ∧ w'.cell? ⟨B0, 4, none⟩ = some (.slice pv v.l.length cv) ∧ w'.cell? ⟨B0, 5, none⟩ = some (.slice qv v.d.length ev))) (go_keep)
            (first
            | (go_at_call 10; (first | (with_reducible refine (C1.out _ KX.out).mono ?_) | (with_reducible refine (C1.out _ KX.out.drew).mono ?_)); rintro e wn ⟨p, c, q, d, rfl, kn, lx⟩; have LX := Lib.hid lx; (first | (with_reducible have KX := Lib.hid (KX.out.trans kn)) | (with_reducible have KX := Lib.hid (KX.out.drew.trans kn))); obtain ⟨⟨t0, t1, t2, t3, t4, t5⟩, v0, v1, v2, v3, v4, v5⟩ := SK.out _ KX.out)
            | (go_at_call 9; (first | (with_reducible refine (C2.out _ KX.out _ _ _ _ LX.out).mono ?_) | (with_reducible refine (C2.out _ KX.out.drew _ _ _ _ (LX.out.kept (Kept.refl _).drew)).mono ?_)); rintro e wn ⟨rfl, kn⟩; (first | (with_reducible have KX := Lib.hid (KX.out.trans kn)) | (with_reducible have KX := Lib.hid (KX.out.drew.trans kn))); obtain ⟨⟨t0, t1, t2, t3, t4, t5⟩, v0, v1, v2, v3, v4, v5⟩ := SK.out _ KX.out))
          all_goals
            go_wp2_with fail
            go_ret
            exact ⟨rfl, K3.out.trans KX.out⟩
        · have hAe : (Cx.set o key v).ents = true := by rw [set_ents, hen]
          have hX0 := get_set o key v hen
          have hG0 := fun h => get_other o key other v h
          have hS0 := set_again o key v
          obtain ⟨A, hA⟩ : ∃ A, A = Cx.set o key v := ⟨_, rfl⟩
          have hAd : A.d.length ≤ 1048576 := by
            have h1 := set_len o key v
            have h2 := (wt_len o).2.1
            have h3 := WO1.out
            rw [hA]; omega
          have hC0 := cosSet_any (fun _ => True) o ⟨po, co, qo, eo⟩ key v ⟨pv, cv, qv, ev⟩
          rw [← hA] at hAe hX0 hG0 hS0 hC0
          have hB0 := get_set A key nul hAe
          rw [if_pos (show nul.k = 0 from rfl)] at hB0
          obtain ⟨B, hB⟩ : ∃ B, B = Cx.set A key nul := ⟨_, rfl⟩
          rw [← hB] at hB0
          have C1 := Lib.hid (show ∀ w', Kept w3 w' → Calls Try.prog 10 #[.agg #[.int .i64 o.k, .int .i64 o.n, .int .i64 o.f, .string o.s, .slice po o.l.length co, .slice qo o.d.length eo], .string key, .agg #[.int .i64 v.k, .int .i64 v.n, .int .i64 v.f, .string v.s, .slice pv v.l.length cv, .slice qv v.d.length ev]] w' fun e w'' => ∃ p1 c1 q1 d1, e = .returned (.agg #[.int .i64 A.k, .int .i64 A.n, .int .i64 A.f, .string A.s, .slice p1 A.l.length c1, .slice q1 A.d.length d1]) ∧ Kept w' w'' ∧ Lies (Cel (fun _ => True) w'') A ⟨p1, c1, q1, d1⟩ from fun w' k =>
            (hC0 w' (LO.out.kept (K3.out.trans k)) (LV.out.kept (K3.out.trans k)) hks' hod).mono fun _ _ ⟨⟨p, c, q, d⟩, he, hk, hl⟩ => ⟨p, c, q, d, he, hk, hl.weak fun _ _ => trivial⟩)
          have C2 := Lib.hid (show ∀ w' p1 c1 q1 d1, Lies (Cel (fun _ => True) w') A ⟨p1, c1, q1, d1⟩ → Calls Try.prog 10 #[.agg #[.int .i64 A.k, .int .i64 A.n, .int .i64 A.f, .string A.s, .slice p1 A.l.length c1, .slice q1 A.d.length d1], .string key, .agg #[.int .i64 0, .int .i64 0, .int .i64 0, .string ⟨#[]⟩, .slice none 0 0, .slice none 0 0]] w' fun e w'' => ∃ p2 c2 q2 d2, e = .returned (.agg #[.int .i64 B.k, .int .i64 B.n, .int .i64 B.f, .string B.s, .slice p2 B.l.length c2, .slice q2 B.d.length d2]) ∧ Kept w' w'' ∧ Lies (Cel (fun _ => True) w'') B ⟨p2, c2, q2, d2⟩ from fun w' p1 c1 q1 d1 hl => by
            have h := cosSet_any (fun _ => True) A ⟨p1, c1, q1, d1⟩ key nul ⟨none, 0, none, 0⟩ w' hl (Lies.flat _ 0 0 0 ⟨#[]⟩ _ (Nat.zero_le _)) hks' hAd
            rw [← hB] at h
            exact h.mono fun _ _ ⟨⟨p, c, q, d⟩, he, hk, hl⟩ => ⟨p, c, q, d, he, hk, hl.weak fun _ _ => trivial⟩)
          have hkk : o.k = 6 ∨ o.k = 8 := by unfold Ob.ents at hen; simpa using hen
          have HKK := Lib.hid hkk
          have HX0 := Lib.hid hX0
          have HG0 := Lib.hid hG0
          have HS0 := Lib.hid hS0
          have HB0 := Lib.hid hB0
          have hsz1 : key.size ≤ 300 := by omega
          have hsz2 : other.size ≤ 300 := by omega
          have HKS := Lib.hid hks'
          have HAD := Lib.hid hAd
          clear hkk hC0 hA hB hX0 hG0 hS0 hB0 hAe hen hAd hod hks'
          go_upto_region 4 with fail
          go_cut [37] (fun c wc => c = .bool false ∧ w3 = wc)
          case first =>
            rcases HKK.out with h | h
            · have h6 : (o.k != 6) = false := by rw [h]; rfl
              go_wp2_with fail
              go_meet
              exact ⟨rfl, rfl⟩
            · have h6 : (o.k != 6) = true := by rw [h]; rfl
              have h8 : (o.k != 8) = false := by rw [h]; rfl
              go_wp2_with fail
              go_meet
              exact ⟨rfl, rfl⟩
          case rest =>
            obtain ⟨rfl, rfl⟩ := hcut
            go_wp2_with fail
            (with_reducible refine (C1.out _ (Kept.refl _)).mono ?_)
            rintro e w4 ⟨p1, c1, q1, d1, rfl, hk4, hl4⟩
            have HX4 := Lib.hid (In.fresh (HX3.out.kept hk4) #[.int .i64 A.k, .int .i64 A.n, .int .i64 A.f, .string A.s, .slice p1 A.l.length c1, .slice q1 A.d.length d1] 26)
            have L4 := Lib.hid (hl4.kept ((Kept.refl w4).alloc #[.int .i64 A.k, .int .i64 A.n, .int .i64 A.f, .string A.s, .slice p1 A.l.length c1, .slice q1 A.d.length d1] 26))
            have K4 := Lib.hid (hk4.alloc #[.int .i64 A.k, .int .i64 A.n, .int .i64 A.f, .string A.s, .slice p1 A.l.length c1, .slice q1 A.d.length d1] 26)
            clear hk4 hl4
            go_wp2_with fail
            (with_reducible refine (C2.out _ _ _ _ _ L4.out).mono ?_)
            rintro e w5 ⟨p2, c2, q2, d2, rfl, hk5, hl5⟩
            have zz := (HX4.out.kept hk5).lt
            have HX5 := Lib.hid (In.fresh (HX4.out.kept hk5) #[.int .i64 B.k, .int .i64 B.n, .int .i64 B.f, .string B.s, .slice p2 B.l.length c2, .slice q2 B.d.length d2] 26)
            have L5 := Lib.hid ((L4.out.kept hk5).kept ((Kept.refl w5).alloc #[.int .i64 B.k, .int .i64 B.n, .int .i64 B.f, .string B.s, .slice p2 B.l.length c2, .slice q2 B.d.length d2] 26))
            have M5 := Lib.hid (hl5.kept ((Kept.refl w5).alloc #[.int .i64 B.k, .int .i64 B.n, .int .i64 B.f, .string B.s, .slice p2 B.l.length c2, .slice q2 B.d.length d2] 26))
            have K5 := Lib.hid ((K4.out.trans hk5).alloc #[.int .i64 B.k, .int .i64 B.n, .int .i64 B.f, .string B.s, .slice p2 B.l.length c2, .slice q2 B.d.length d2] 26)
            clear hk5 hl5
            go_wp2_with fail
            obtain ⟨E0, hE0⟩ : ∃ E0, E0 = w5.heap.size := ⟨_, rfl⟩
            rw [← hE0] at HX5 ⊢
            obtain ⟨D0, hD0⟩ : ∃ D0, D0 = w4.heap.size := ⟨_, rfl⟩
            rw [← hD0] at HX5 ⊢
            clear hE0 hD0
            generalize (w5.alloc (.cells #[.int .i64 B.k, .int .i64 B.n, .int .i64 B.f, .string B.s, .slice p2 B.l.length c2, .slice q2 B.d.length d2] 26)) = W at HX5 L5 M5 K5 ⊢
            have KW := Lib.hid (K3.out.trans K5.out)
            obtain ⟨X, hX⟩ : ∃ X, X = if v.k = 0 then nul else v := ⟨_, rfl⟩
            obtain ⟨E1, hE1⟩ : ∃ E1, E1 = ex X v := ⟨_, rfl⟩
            have HVX := Lib.hid (show E1 = false → v.k = 0 from fun h => by
              rcases Classical.em (v.k = 0) with h0 | h0
              · exact h0
              · rw [if_neg h0] at hX; rw [hE1, ex_yes hX] at h; cases h)
            have GA := Lib.hid (show ∀ w', Kept W w' → Calls Try.prog 11 #[.agg #[.int .i64 A.k, .int .i64 A.n, .int .i64 A.f, .string A.s, .slice p1 A.l.length c1, .slice q1 A.d.length d1], .string key] w' fun e w'' => ∃ p c q d, e = .returned (.agg #[.int .i64 X.k, .int .i64 X.n, .int .i64 X.f, .string X.s, .slice p X.l.length c, .slice q X.d.length d]) ∧ Kept w' w'' ∧ Lies (Cel (fun _ => True) w'') X ⟨p, c, q, d⟩ from fun w' k => by
              have h := cosGet_any (fun _ => True) A _ key w' (L5.out.kept k)
              rw [HX0.out, ← hX] at h
              exact h.mono fun _ _ ⟨⟨p, c, q, d⟩, he, hk, hl⟩ => ⟨p, c, q, d, he, hk, hl⟩)
            have EX := Lib.hid (show ∀ w', Kept W w' → ∀ p c q d, Lies (Cel (fun _ => True) w') X ⟨p, c, q, d⟩ → Calls Try.prog 9 #[.agg #[.int .i64 X.k, .int .i64 X.n, .int .i64 X.f, .string X.s, .slice p X.l.length c, .slice q X.d.length d], .agg #[.int .i64 v.k, .int .i64 v.n, .int .i64 v.f, .string v.s, .slice pv v.l.length cv, .slice qv v.d.length ev]] w' fun e w'' => e = .returned (.bool E1) ∧ Kept w' w'' from fun w' k p c q d hl => by
              have h := Exact_any (fun _ => True) X v ⟨p, c, q, d⟩ _ w' hl (LV.out.kept (KW.out.trans k))
              rw [← hE1] at h; exact h)
            have GB := Lib.hid (show ∀ w', Kept W w' → Calls Try.prog 11 #[.agg #[.int .i64 B.k, .int .i64 B.n, .int .i64 B.f, .string B.s, .slice p2 B.l.length c2, .slice q2 B.d.length d2], .string key] w' fun e w'' => ∃ p c q d, e = .returned (.agg #[.int .i64 0, .int .i64 0, .int .i64 0, .string ⟨#[]⟩, .slice p 0 c, .slice q 0 d]) ∧ Kept w' w'' from fun w' k => by
              have h := cosGet_any (fun _ => True) B _ key w' (M5.out.kept k)
              rw [HB0.out] at h
              exact h.mono fun _ _ ⟨⟨p, c, q, d⟩, he, hk, hl⟩ => ⟨p, c, q, d, he, hk⟩)
            have SK := Lib.hid (show ∀ w', Kept W w' → (w'.cell? ⟨A0, 0, none⟩ = some (.int .i64 o.k) ∧ w'.cell? ⟨A0, 1, none⟩ = some (.int .i64 o.n) ∧ w'.cell? ⟨A0, 2, none⟩ = some (.int .i64 o.f) ∧ w'.cell? ⟨A0, 3, none⟩ = some (.string o.s) ∧ w'.cell? ⟨A0, 4, none⟩ = some (.slice po o.l.length co) ∧ w'.cell? ⟨A0, 5, none⟩ = some (.slice qo o.d.length eo)) ∧ (w'.cell? ⟨B0, 0, none⟩ = some (.int .i64 v.k) ∧ w'.cell? ⟨B0, 1, none⟩ = some (.int .i64 v.n) ∧ w'.cell? ⟨B0, 2, none⟩ = some (.int .i64 v.f) ∧ w'.cell? ⟨B0, 3, none⟩ = some (.string v.s) ∧ w'.cell? ⟨B0, 4, none⟩ = some (.slice pv v.l.length cv) ∧ w'.cell? ⟨B0, 5, none⟩ = some (.slice qv v.d.length ev)) ∧ (w'.cell? ⟨D0, 0, none⟩ = some (.int .i64 A.k) ∧ w'.cell? ⟨D0, 1, none⟩ = some (.int .i64 A.n) ∧ w'.cell? ⟨D0, 2, none⟩ = some (.int .i64 A.f) ∧ w'.cell? ⟨D0, 3, none⟩ = some (.string A.s) ∧ w'.cell? ⟨D0, 4, none⟩ = some (.slice p1 A.l.length c1) ∧ w'.cell? ⟨D0, 5, none⟩ = some (.slice q1 A.d.length d1)) ∧ (w'.cell? ⟨E0, 0, none⟩ = some (.int .i64 B.k) ∧ w'.cell? ⟨E0, 1, none⟩ = some (.int .i64 B.n) ∧ w'.cell? ⟨E0, 2, none⟩ = some (.int .i64 B.f) ∧ w'.cell? ⟨E0, 3, none⟩ = some (.string B.s) ∧ w'.cell? ⟨E0, 4, none⟩ = some (.slice p2 B.l.length c2) ∧ w'.cell? ⟨E0, 5, none⟩ = some (.slice q2 B.d.length d2)) from fun w' k => ⟨((HX5.out.mem (List.mem_cons_of_mem _ (List.mem_cons_of_mem _ (List.mem_cons_of_mem _ List.mem_cons_self)))).kept k).cells6, ((HX5.out.mem (List.mem_cons_of_mem _ (List.mem_cons_of_mem _ List.mem_cons_self))).kept k).cells6, ((HX5.out.mem (List.mem_cons_of_mem _ List.mem_cons_self)).kept k).cells6, ((HX5.out.mem List.mem_cons_self).kept k).cells6⟩)
            have HXX := Lib.hid hX
            have hff := field_K
            clear hX hE1 C1 C2 HX3 HX4 K4 HKK FO FV WO WV WO1 WV1 HYO HYV
            go_upto_region 8 with fail
            go_cut [72] (fun c wc => c = .bool false ∧ Kept W wc)
            case first =>
              have KX := Lib.hid (Kept.refl W)
              obtain ⟨⟨t0, t1, t2, t3, t4, t5⟩, ⟨v0, v1, v2, v3, v4, v5⟩, ⟨x0, x1, x2, x3, x4, x5⟩, y0, y1, y2, y3, y4, y5⟩ := SK.out _ KX.out
              cases E1
              · have hvk : (v.k != 0) = false := by rw [HVX.out rfl]; rfl
                go_region_held3 (fun w' => (w'.cell? ⟨A0, 0, none⟩ = some (.int .i64 o.k) ∧ w'.cell? ⟨A0, 1, none⟩ = some (.int .i64 o.n) ∧ w'.cell? ⟨A0, 2, none⟩ = some (.int .i64 o.f) ∧ w'.cell? ⟨A0, 3, none⟩ = some (.string o.s) ∧ w'.cell? ⟨A0, 4, none⟩ = some (.slice po o.l.length co) ∧ w'.cell? ⟨A0, 5, none⟩ = some (.slice qo o.d.length eo)) ∧ (w'.cell? ⟨B0, 0, none⟩ = some (.int .i64 v.k) ∧ w'.cell? ⟨B0, 1, none⟩ = some (.int .i64 v.n) ∧ w'.cell? ⟨B0, 2, none⟩ = some (.int .i64 v.f) ∧ w'.cell? ⟨B0, 3, none⟩ = some (.string v.s) ∧ w'.cell? ⟨B0, 4, none⟩ = some (.slice pv v.l.length cv) ∧ w'.cell? ⟨B0, 5, none⟩ = some (.slice qv v.d.length ev)) ∧ (w'.cell? ⟨D0, 0, none⟩ = some (.int .i64 A.k) ∧ w'.cell? ⟨D0, 1, none⟩ = some (.int .i64 A.n) ∧ w'.cell? ⟨D0, 2, none⟩ = some (.int .i64 A.f) ∧ w'.cell? ⟨D0, 3, none⟩ = some (.string A.s) ∧ w'.cell? ⟨D0, 4, none⟩ = some (.slice p1 A.l.length c1) ∧ w'.cell? ⟨D0, 5, none⟩ = some (.slice q1 A.d.length d1)) ∧ (w'.cell? ⟨E0, 0, none⟩ = some (.int .i64 B.k) ∧ w'.cell? ⟨E0, 1, none⟩ = some (.int .i64 B.n) ∧ w'.cell? ⟨E0, 2, none⟩ = some (.int .i64 B.f) ∧ w'.cell? ⟨E0, 3, none⟩ = some (.string B.s) ∧ w'.cell? ⟨E0, 4, none⟩ = some (.slice p2 B.l.length c2) ∧ w'.cell? ⟨E0, 5, none⟩ = some (.slice q2 B.d.length d2))) (go_keep)
                  (first
                  | (go_at_call 11; (first | (with_reducible refine (GA.out _ KX.out).mono ?_) | (with_reducible refine (GA.out _ KX.out.drew).mono ?_)); rintro e wn ⟨p, c, q, d, rfl, kn, lx⟩; have LX := Lib.hid lx; (first | (with_reducible have KX := Lib.hid (KX.out.trans kn)) | (with_reducible have KX := Lib.hid (KX.out.drew.trans kn))); obtain ⟨⟨t0, t1, t2, t3, t4, t5⟩, ⟨v0, v1, v2, v3, v4, v5⟩, ⟨x0, x1, x2, x3, x4, x5⟩, y0, y1, y2, y3, y4, y5⟩ := SK.out _ KX.out)
                  | (go_at_call 11; (first | (with_reducible refine (GB.out _ KX.out).mono ?_) | (with_reducible refine (GB.out _ KX.out.drew).mono ?_)); rintro e wn ⟨p', c', q', d', rfl, kn⟩; (first | (with_reducible have KX := Lib.hid (KX.out.trans kn)) | (with_reducible have KX := Lib.hid (KX.out.drew.trans kn))); obtain ⟨⟨t0, t1, t2, t3, t4, t5⟩, ⟨v0, v1, v2, v3, v4, v5⟩, ⟨x0, x1, x2, x3, x4, x5⟩, y0, y1, y2, y3, y4, y5⟩ := SK.out _ KX.out)
                  | (go_at_call 9; (first | (with_reducible refine (EX.out _ KX.out _ _ _ _ LX.out).mono ?_) | (with_reducible refine (EX.out _ KX.out.drew _ _ _ _ (LX.out.kept (Kept.refl _).drew)).mono ?_)); rintro e wn ⟨rfl, kn⟩; (first | (with_reducible have KX := Lib.hid (KX.out.trans kn)) | (with_reducible have KX := Lib.hid (KX.out.drew.trans kn))); obtain ⟨⟨t0, t1, t2, t3, t4, t5⟩, ⟨v0, v1, v2, v3, v4, v5⟩, ⟨x0, x1, x2, x3, x4, x5⟩, y0, y1, y2, y3, y4, y5⟩ := SK.out _ KX.out))
                all_goals
                  go_wp2_with fail
                  go_meet
                  exact ⟨rfl, KX.out⟩
              · skip
                refine wp_region_held_drew (S := fun w' => (w'.cell? ⟨A0, 0, none⟩ = some (.int .i64 o.k) ∧ w'.cell? ⟨A0, 1, none⟩ = some (.int .i64 o.n) ∧ w'.cell? ⟨A0, 2, none⟩ = some (.int .i64 o.f) ∧ w'.cell? ⟨A0, 3, none⟩ = some (.string o.s) ∧ w'.cell? ⟨A0, 4, none⟩ = some (.slice po o.l.length co) ∧ w'.cell? ⟨A0, 5, none⟩ = some (.slice qo o.d.length eo)) ∧ (w'.cell? ⟨B0, 0, none⟩ = some (.int .i64 v.k) ∧ w'.cell? ⟨B0, 1, none⟩ = some (.int .i64 v.n) ∧ w'.cell? ⟨B0, 2, none⟩ = some (.int .i64 v.f) ∧ w'.cell? ⟨B0, 3, none⟩ = some (.string v.s) ∧ w'.cell? ⟨B0, 4, none⟩ = some (.slice pv v.l.length cv) ∧ w'.cell? ⟨B0, 5, none⟩ = some (.slice qv v.d.length ev)) ∧ (w'.cell? ⟨D0, 0, none⟩ = some (.int .i64 A.k) ∧ w'.cell? ⟨D0, 1, none⟩ = some (.int .i64 A.n) ∧ w'.cell? ⟨D0, 2, none⟩ = some (.int .i64 A.f) ∧ w'.cell? ⟨D0, 3, none⟩ = some (.string A.s) ∧ w'.cell? ⟨D0, 4, none⟩ = some (.slice p1 A.l.length c1) ∧ w'.cell? ⟨D0, 5, none⟩ = some (.slice q1 A.d.length d1)) ∧ (w'.cell? ⟨E0, 0, none⟩ = some (.int .i64 B.k) ∧ w'.cell? ⟨E0, 1, none⟩ = some (.int .i64 B.n) ∧ w'.cell? ⟨E0, 2, none⟩ = some (.int .i64 B.f) ∧ w'.cell? ⟨E0, 3, none⟩ = some (.string B.s) ∧ w'.cell? ⟨E0, 4, none⟩ = some (.slice p2 B.l.length c2) ∧ w'.cell? ⟨E0, 5, none⟩ = some (.slice q2 B.d.length d2))) (by kernel_rfl) ?_ (fun hHeld => ?_)
                · go_keep
                refine wpAnyH_take (i := 0) (oi := ⟨some 55, _, _, _, _, _⟩) (v := ?_) rfl (by kernel_rfl) (by kernel_rfl) (by kernel_rfl) (fun _ _ _ h => h) (Or.inl ⟨by rfl, ?_⟩) (by assumption) ?_
                rotate_left 1
                · (intro w hSw; (try dsimp only at hSw); go_simp <;> with_reducible rfl)
                try simp only [Act.put, List.setIfInBounds_toArray, List.set_cons_zero, List.set_cons_succ]
                refine wpAnyH_take (i := 1) (oi := ⟨some 56, _, _, _, _, _⟩) (v := ?_) rfl (by kernel_rfl) (by kernel_rfl) (by kernel_rfl) (fun _ _ _ h => h) (Or.inl ⟨by rfl, ?_⟩) (by assumption) ?_
                rotate_left 1
                · (intro w hSw; (try dsimp only at hSw); go_simp <;> with_reducible rfl)
                try simp only [Act.put, List.setIfInBounds_toArray, List.set_cons_zero, List.set_cons_succ]
                refine wpAnyH_take (i := 3) (oi := ⟨some 58, _, _, _, _, _⟩) (v := ?_) rfl (by kernel_rfl) (by kernel_rfl) (by kernel_rfl) (fun _ _ _ h => h) (Or.inl ⟨by rfl, ?_⟩) (by assumption) ?_
                rotate_left 1
                · (intro w hSw; (try dsimp only at hSw); go_simp <;> with_reducible rfl)
                try simp only [Act.put, List.setIfInBounds_toArray, List.set_cons_zero, List.set_cons_succ]
                refine wpAnyH_ready (rs := [2]) (by kernel_rfl) (by simp) ?_
                refine AllReadyH.cons (o := ⟨some 57, _, _, _, _, _⟩) rfl (fun K hK => ?_) AllReadyH.nil
                go_simp
                (first | (with_reducible refine (GA.out _ KX.out).mono ?_) | (with_reducible refine (GA.out _ KX.out.drew).mono ?_)); rintro e wn ⟨p, c, q, d, rfl, kn, lx⟩; have LX := Lib.hid lx; (first | (with_reducible have KX := Lib.hid (KX.out.trans kn)) | (with_reducible have KX := Lib.hid (KX.out.drew.trans kn))); obtain ⟨⟨t0, t1, t2, t3, t4, t5⟩, ⟨v0, v1, v2, v3, v4, v5⟩, ⟨x0, x1, x2, x3, x4, x5⟩, y0, y1, y2, y3, y4, y5⟩ := SK.out _ KX.out
                refine hK.out _ _ ?_ (fun hHeld => ?_)
                · go_keep
                clear hK K
                try simp only [Act.put, List.setIfInBounds_toArray, List.set_cons_zero, List.set_cons_succ]
                refine wpAnyH_ready (rs := [4]) (by kernel_rfl) (by simp) ?_
                refine AllReadyH.cons (o := ⟨some 59, _, _, _, _, _⟩) rfl (fun K hK => ?_) AllReadyH.nil
                go_simp
                (first | (with_reducible refine (EX.out _ KX.out _ _ _ _ LX.out).mono ?_) | (with_reducible refine (EX.out _ KX.out.drew _ _ _ _ (LX.out.kept (Kept.refl _).drew)).mono ?_)); rintro e wn ⟨rfl, kn⟩; (first | (with_reducible have KX := Lib.hid (KX.out.trans kn)) | (with_reducible have KX := Lib.hid (KX.out.drew.trans kn))); obtain ⟨⟨t0, t1, t2, t3, t4, t5⟩, ⟨v0, v1, v2, v3, v4, v5⟩, ⟨x0, x1, x2, x3, x4, x5⟩, y0, y1, y2, y3, y4, y5⟩ := SK.out _ KX.out
                refine hK.out _ _ ?_ (fun hHeld => ?_)
                · go_keep
                clear hK K
                try simp only [Act.put, List.setIfInBounds_toArray, List.set_cons_zero, List.set_cons_succ]
                refine wpAnyH_take (i := 5) (oi := ⟨some 60, _, _, _, _, _⟩) (v := ?_) rfl (by kernel_rfl) (by kernel_rfl) (by kernel_rfl) (fun _ _ _ h => h) (Or.inl ⟨by rfl, ?_⟩) (by assumption) ?_
                rotate_left 1
                · (intro w hSw; (try dsimp only at hSw); go_simp <;> with_reducible rfl)
                try simp only [Act.put, List.setIfInBounds_toArray, List.set_cons_zero, List.set_cons_succ]
                refine wpAnyH_take (i := 6) (oi := ⟨some 61, _, _, _, _, _⟩) (v := ?_) rfl (by kernel_rfl) (by kernel_rfl) (by kernel_rfl) (fun _ _ _ h => h) (Or.inl ⟨by rfl, ?_⟩) (by assumption) ?_
                rotate_left 1
                · (intro w hSw; (try dsimp only at hSw); go_simp <;> with_reducible rfl)
                try simp only [Act.put, List.setIfInBounds_toArray, List.set_cons_zero, List.set_cons_succ]
                refine wpAnyH_take (i := 7) (oi := ⟨some 62, _, _, _, _, _⟩) (v := undef) rfl (by kernel_rfl) (by kernel_rfl) (by kernel_rfl) (fun _ _ _ h => h) (Or.inr ⟨by rfl, rfl⟩) (by assumption) ?_
                try simp only [Act.put, List.setIfInBounds_toArray, List.set_cons_zero, List.set_cons_succ]
                refine wpAnyH_take (i := 8) (oi := ⟨some 63, _, _, _, _, _⟩) (v := undef) rfl (by kernel_rfl) (by kernel_rfl) (by kernel_rfl) (fun _ _ _ h => h) (Or.inr ⟨by rfl, rfl⟩) (by assumption) ?_
                try simp only [Act.put, List.setIfInBounds_toArray, List.set_cons_zero, List.set_cons_succ]
                refine wpAnyH_take (i := 9) (oi := ⟨some 64, _, _, _, _, _⟩) (v := undef) rfl (by kernel_rfl) (by kernel_rfl) (by kernel_rfl) (fun _ _ _ h => h) (Or.inr ⟨by rfl, rfl⟩) (by assumption) ?_
                try simp only [Act.put, List.setIfInBounds_toArray, List.set_cons_zero, List.set_cons_succ]
                refine wpAnyH_take (i := 10) (oi := ⟨some 65, _, _, _, _, _⟩) (v := ?_) rfl (by kernel_rfl) (by kernel_rfl) (by kernel_rfl) (fun _ _ _ h => h) (Or.inl ⟨by rfl, ?_⟩) (by assumption) ?_
                rotate_left 1
                · (intro w hSw; (try dsimp only at hSw); go_simp <;> with_reducible rfl)
                try simp only [Act.put, List.setIfInBounds_toArray, List.set_cons_zero, List.set_cons_succ]
                refine wpAnyH_take (i := 11) (oi := ⟨some 66, _, _, _, _, _⟩) (v := ?_) rfl (by kernel_rfl) (by kernel_rfl) (by kernel_rfl) (fun _ _ _ h => h) (Or.inl ⟨by rfl, ?_⟩) (by assumption) ?_
                rotate_left 1
                · (intro w hSw; (try dsimp only at hSw); go_simp <;> with_reducible rfl)
                try simp only [Act.put, List.setIfInBounds_toArray, List.set_cons_zero, List.set_cons_succ]
                refine wpAnyH_take (i := 12) (oi := ⟨some 67, _, _, _, _, _⟩) (v := ?_) rfl (by kernel_rfl) (by kernel_rfl) (by kernel_rfl) (fun _ _ _ h => h) (Or.inl ⟨by rfl, ?_⟩) (by assumption) ?_
                rotate_left 1
                · (intro w hSw; (try dsimp only at hSw); go_simp <;> with_reducible rfl)
                try simp only [Act.put, List.setIfInBounds_toArray, List.set_cons_zero, List.set_cons_succ]
                refine wpAnyH_take (i := 13) (oi := ⟨some 68, _, _, _, _, _⟩) (v := ?_) rfl (by kernel_rfl) (by kernel_rfl) (by kernel_rfl) (fun _ _ _ h => h) (Or.inl ⟨by rfl, ?_⟩) (by assumption) ?_
                rotate_left 1
                · (intro w hSw; (try dsimp only at hSw); go_simp <;> with_reducible rfl)
                try simp only [Act.put, List.setIfInBounds_toArray, List.set_cons_zero, List.set_cons_succ]
                refine wpAnyH_ready (rs := [14]) (by kernel_rfl) (by simp) ?_
                refine AllReadyH.cons (o := ⟨some 69, _, _, _, _, _⟩) rfl (fun K hK => ?_) AllReadyH.nil
                go_simp
                (first | (with_reducible refine (GB.out _ KX.out).mono ?_) | (with_reducible refine (GB.out _ KX.out.drew).mono ?_)); rintro e wn ⟨p', c', q', d', rfl, kn⟩; (first | (with_reducible have KX := Lib.hid (KX.out.trans kn)) | (with_reducible have KX := Lib.hid (KX.out.drew.trans kn))); obtain ⟨⟨t0, t1, t2, t3, t4, t5⟩, ⟨v0, v1, v2, v3, v4, v5⟩, ⟨x0, x1, x2, x3, x4, x5⟩, y0, y1, y2, y3, y4, y5⟩ := SK.out _ KX.out
                refine hK.out _ _ ?_ (fun hHeld => ?_)
                · go_keep
                clear hK K
                try simp only [Act.put, List.setIfInBounds_toArray, List.set_cons_zero, List.set_cons_succ]
                refine wpAnyH_take (i := 15) (oi := ⟨some 70, _, _, _, _, _⟩) (v := ?_) rfl (by kernel_rfl) (by kernel_rfl) (by kernel_rfl) (fun _ _ _ h => h) (Or.inl ⟨by rfl, ?_⟩) (by assumption) ?_
                rotate_left 1
                · (intro w hSw; (try dsimp only at hSw); go_simp <;> with_reducible rfl)
                try simp only [Act.put, List.setIfInBounds_toArray, List.set_cons_zero, List.set_cons_succ]
                refine wpAnyH_take (i := 16) (oi := ⟨some 71, _, _, _, _, _⟩) (v := ?_) rfl (by kernel_rfl) (by kernel_rfl) (by kernel_rfl) (fun _ _ _ h => h) (Or.inl ⟨by rfl, ?_⟩) (by assumption) ?_
                rotate_left 1
                · (intro w hSw; (try dsimp only at hSw); go_simp <;> with_reducible rfl)
                try simp only [Act.put, List.setIfInBounds_toArray, List.set_cons_zero, List.set_cons_succ]
                refine wpAnyH_take (i := 17) (oi := ⟨some 72, _, _, _, _, _⟩) (v := ?_) rfl (by kernel_rfl) (by kernel_rfl) (by kernel_rfl) (fun _ _ _ h => h) (Or.inl ⟨by rfl, ?_⟩) (by assumption) ?_
                rotate_left 1
                · (intro w hSw; (try dsimp only at hSw); go_simp <;> with_reducible rfl)
                try simp only [Act.put, List.setIfInBounds_toArray, List.set_cons_zero, List.set_cons_succ]
                refine wpAnyH_done (by kernel_rfl) ?_ _
                all_goals
                  go_wp2_with fail
                  go_meet
                  exact ⟨rfl, KX.out⟩
            case rest =>
              obtain ⟨rfl, hkc⟩ := hcut
              have K8 := Lib.hid hkc
              clear hkc
              obtain ⟨G, hG⟩ : ∃ G, G = Cx.get o other := ⟨_, rfl⟩
              have GO := Lib.hid (show ∀ w', Kept W w' → Calls Try.prog 11 #[.agg #[.int .i64 o.k, .int .i64 o.n, .int .i64 o.f, .string o.s, .slice po o.l.length co, .slice qo o.d.length eo], .string other] w' fun e w'' => ∃ p c q d, e = .returned (.agg #[.int .i64 G.k, .int .i64 G.n, .int .i64 G.f, .string G.s, .slice p G.l.length c, .slice q G.d.length d]) ∧ Kept w' w'' ∧ Lies (Cel (fun _ => True) w'') G ⟨p, c, q, d⟩ from fun w' k => by
                have h := cosGet_any (fun _ => True) o _ other w' (LO.out.kept (KW.out.trans k))
                rw [← hG] at h
                exact h.mono fun _ _ ⟨⟨p, c, q, d⟩, he, hk, hl⟩ => ⟨p, c, q, d, he, hk, hl⟩)
              have GAO := Lib.hid (show key ≠ other → ∀ w', Kept W w' → Calls Try.prog 11 #[.agg #[.int .i64 A.k, .int .i64 A.n, .int .i64 A.f, .string A.s, .slice p1 A.l.length c1, .slice q1 A.d.length d1], .string other] w' fun e w'' => ∃ p c q d, e = .returned (.agg #[.int .i64 G.k, .int .i64 G.n, .int .i64 G.f, .string G.s, .slice p G.l.length c, .slice q G.d.length d]) ∧ Kept w' w'' ∧ Lies (Cel (fun _ => True) w'') G ⟨p, c, q, d⟩ from fun hne w' k => by
                have h := cosGet_any (fun _ => True) A _ other w' (L5.out.kept k)
                rw [HG0.out hne, ← hG] at h
                exact h.mono fun _ _ ⟨⟨p, c, q, d⟩, he, hk, hl⟩ => ⟨p, c, q, d, he, hk, hl⟩)
              have EG := Lib.hid (show ∀ w' p c q d p' c' q' d', Lies (Cel (fun _ => True) w') G ⟨p, c, q, d⟩ → Lies (Cel (fun _ => True) w') G ⟨p', c', q', d'⟩ → Calls Try.prog 9 #[.agg #[.int .i64 G.k, .int .i64 G.n, .int .i64 G.f, .string G.s, .slice p G.l.length c, .slice q G.d.length d], .agg #[.int .i64 G.k, .int .i64 G.n, .int .i64 G.f, .string G.s, .slice p' G.l.length c', .slice q' G.d.length d']] w' fun e w'' => e = .returned (.bool true) ∧ Kept w' w'' from fun w' p c q d p' c' q' d' h1 h2 => by
                have h := Exact_any (fun _ => True) G G ⟨p, c, q, d⟩ ⟨p', c', q', d'⟩ w' h1 h2
                rw [ex_yes rfl] at h; exact h)
              clear hG GA EX GB
              obtain ⟨yk, hyk⟩ : ∃ yk, yk = keq key other := ⟨_, rfl⟩
              have HYK := Lib.hid hyk
              clear hyk
              go_upto_region 10 with fail
              go_cut [85] (fun c wx => c = .bool false ∧ Kept W wx)
              case first =>
                have KX := Lib.hid K8.out
                obtain ⟨⟨t0, t1, t2, t3, t4, t5⟩, ⟨v0, v1, v2, v3, v4, v5⟩, ⟨x0, x1, x2, x3, x4, x5⟩, y0, y1, y2, y3, y4, y5⟩ := SK.out _ KX.out
                cases yk
                · have hkq : (key.toList == other.toList) = false := HYK.out.symm
                  have GA2 := Lib.hid (GAO.out fun e => by have := HYK.out; rw [keq_iff.2 e] at this; cases this)
                  go_region_held3 (fun w' => (w'.cell? ⟨A0, 0, none⟩ = some (.int .i64 o.k) ∧ w'.cell? ⟨A0, 1, none⟩ = some (.int .i64 o.n) ∧ w'.cell? ⟨A0, 2, none⟩ = some (.int .i64 o.f) ∧ w'.cell? ⟨A0, 3, none⟩ = some (.string o.s) ∧ w'.cell? ⟨A0, 4, none⟩ = some (.slice po o.l.length co) ∧ w'.cell? ⟨A0, 5, none⟩ = some (.slice qo o.d.length eo)) ∧ (w'.cell? ⟨B0, 0, none⟩ = some (.int .i64 v.k) ∧ w'.cell? ⟨B0, 1, none⟩ = some (.int .i64 v.n) ∧ w'.cell? ⟨B0, 2, none⟩ = some (.int .i64 v.f) ∧ w'.cell? ⟨B0, 3, none⟩ = some (.string v.s) ∧ w'.cell? ⟨B0, 4, none⟩ = some (.slice pv v.l.length cv) ∧ w'.cell? ⟨B0, 5, none⟩ = some (.slice qv v.d.length ev)) ∧ (w'.cell? ⟨D0, 0, none⟩ = some (.int .i64 A.k) ∧ w'.cell? ⟨D0, 1, none⟩ = some (.int .i64 A.n) ∧ w'.cell? ⟨D0, 2, none⟩ = some (.int .i64 A.f) ∧ w'.cell? ⟨D0, 3, none⟩ = some (.string A.s) ∧ w'.cell? ⟨D0, 4, none⟩ = some (.slice p1 A.l.length c1) ∧ w'.cell? ⟨D0, 5, none⟩ = some (.slice q1 A.d.length d1)) ∧ (w'.cell? ⟨E0, 0, none⟩ = some (.int .i64 B.k) ∧ w'.cell? ⟨E0, 1, none⟩ = some (.int .i64 B.n) ∧ w'.cell? ⟨E0, 2, none⟩ = some (.int .i64 B.f) ∧ w'.cell? ⟨E0, 3, none⟩ = some (.string B.s) ∧ w'.cell? ⟨E0, 4, none⟩ = some (.slice p2 B.l.length c2) ∧ w'.cell? ⟨E0, 5, none⟩ = some (.slice q2 B.d.length d2))) (go_keep)
                    (first
                    | (go_at_call 11; (first | (with_reducible refine (GA2.out _ KX.out).mono ?_) | (with_reducible refine (GA2.out _ KX.out.drew).mono ?_)); rintro e wn ⟨p, c, q, d, rfl, kn, lx⟩; (try have LY := Lib.hid (LY.out.kept kn)); have LX := Lib.hid lx; (first | (with_reducible have KX := Lib.hid (KX.out.trans kn)) | (with_reducible have KX := Lib.hid (KX.out.drew.trans kn))); obtain ⟨⟨t0, t1, t2, t3, t4, t5⟩, ⟨v0, v1, v2, v3, v4, v5⟩, ⟨x0, x1, x2, x3, x4, x5⟩, y0, y1, y2, y3, y4, y5⟩ := SK.out _ KX.out)
                    | (go_at_call 11; (first | (with_reducible refine (GO.out _ KX.out).mono ?_) | (with_reducible refine (GO.out _ KX.out.drew).mono ?_)); rintro e wn ⟨p', c', q', d', rfl, kn, ly⟩; (try have LX := Lib.hid (LX.out.kept kn)); have LY := Lib.hid ly; (first | (with_reducible have KX := Lib.hid (KX.out.trans kn)) | (with_reducible have KX := Lib.hid (KX.out.drew.trans kn))); obtain ⟨⟨t0, t1, t2, t3, t4, t5⟩, ⟨v0, v1, v2, v3, v4, v5⟩, ⟨x0, x1, x2, x3, x4, x5⟩, y0, y1, y2, y3, y4, y5⟩ := SK.out _ KX.out)
                    | (go_at_call 9; (first | (with_reducible refine (EG.out _ _ _ _ _ _ _ _ _ LX.out LY.out).mono ?_) | (with_reducible refine (EG.out _ _ _ _ _ _ _ _ _ (LX.out.kept (Kept.refl _).drew) (LY.out.kept (Kept.refl _).drew)).mono ?_)); rintro e wn ⟨rfl, kn⟩; (first | (with_reducible have KX := Lib.hid (KX.out.trans kn)) | (with_reducible have KX := Lib.hid (KX.out.drew.trans kn))); obtain ⟨⟨t0, t1, t2, t3, t4, t5⟩, ⟨v0, v1, v2, v3, v4, v5⟩, ⟨x0, x1, x2, x3, x4, x5⟩, y0, y1, y2, y3, y4, y5⟩ := SK.out _ KX.out))
                  all_goals
                    go_wp2_with fail
                    go_meet
                    exact ⟨rfl, KX.out⟩
                · have hkq : (key.toList == other.toList) = true := HYK.out.symm
                  go_quiet (fail)
                  go_wp2_with fail
                  go_meet
                  exact ⟨rfl, by
                    have K0 := K8.out
                    repeat (with_reducible first | exact K0 | refine Kept.drewN ?_ _ | refine Kept.drew ?_)⟩
              case rest =>
                obtain ⟨rfl, hkc⟩ := hcut
                have KX := Lib.hid hkc
                clear hkc K8 GO GAO EG
                have CA := Lib.hid (show ∀ w', Kept W w' → Calls Try.prog 10 #[.agg #[.int .i64 A.k, .int .i64 A.n, .int .i64 A.f, .string A.s, .slice p1 A.l.length c1, .slice q1 A.d.length d1], .string key, .agg #[.int .i64 v.k, .int .i64 v.n, .int .i64 v.f, .string v.s, .slice pv v.l.length cv, .slice qv v.d.length ev]] w' fun e w'' => ∃ p c q d, e = .returned (.agg #[.int .i64 A.k, .int .i64 A.n, .int .i64 A.f, .string A.s, .slice p A.l.length c, .slice q A.d.length d]) ∧ Kept w' w'' ∧ Lies (Cel (fun _ => True) w'') A ⟨p, c, q, d⟩ from fun w' k => by
                  have h := cosSet_any (fun _ => True) A _ key v _ w' (L5.out.kept k) (LV.out.kept (KW.out.trans k)) HKS.out HAD.out
                  rw [HS0.out] at h
                  exact h.mono fun _ _ ⟨⟨p, c, q, d⟩, he, hk, hl⟩ => ⟨p, c, q, d, he, hk, hl.weak fun _ _ => trivial⟩)
                have EA := Lib.hid (show ∀ w' p c q d, Kept W w' → Lies (Cel (fun _ => True) w') A ⟨p, c, q, d⟩ → Calls Try.prog 9 #[.agg #[.int .i64 A.k, .int .i64 A.n, .int .i64 A.f, .string A.s, .slice p A.l.length c, .slice q A.d.length d], .agg #[.int .i64 A.k, .int .i64 A.n, .int .i64 A.f, .string A.s, .slice p1 A.l.length c1, .slice q1 A.d.length d1]] w' fun e w'' => e = .returned (.bool true) ∧ Kept w' w'' from fun w' p c q d k h1 => by
                  have h := Exact_any (fun _ => True) A A ⟨p, c, q, d⟩ _ w' h1 (L5.out.kept k)
                  rw [ex_yes rfl] at h; exact h)
                have GN := Lib.hid (show v.k = 0 → ∀ w', Kept W w' → Calls Try.prog 11 #[.agg #[.int .i64 A.k, .int .i64 A.n, .int .i64 A.f, .string A.s, .slice p1 A.l.length c1, .slice q1 A.d.length d1], .string key] w' fun e w'' => ∃ p c q d, e = .returned (.agg #[.int .i64 0, .int .i64 0, .int .i64 0, .string ⟨#[]⟩, .slice p 0 c, .slice q 0 d]) ∧ Kept w' w'' ∧ Lies (Cel (fun _ => True) w'') nul ⟨p, c, q, d⟩ from fun hv w' k => by
                  have h := cosGet_any (fun _ => True) A _ key w' (L5.out.kept k)
                  rw [HX0.out, if_pos hv] at h
                  exact h.mono fun _ _ ⟨⟨p, c, q, d⟩, he, hk, hl⟩ => ⟨p, c, q, d, he, hk, hl⟩)
                have EN := Lib.hid (show ∀ w' p c q d, Lies (Cel (fun _ => True) w') nul ⟨p, c, q, d⟩ → Calls Try.prog 9 #[.agg #[.int .i64 0, .int .i64 0, .int .i64 0, .string ⟨#[]⟩, .slice p 0 c, .slice q 0 d], .agg #[.int .i64 0, .int .i64 0, .int .i64 0, .string ⟨#[]⟩, .slice none 0 0, .slice none 0 0]] w' fun e w'' => e = .returned (.bool true) ∧ Kept w' w'' from fun w' p c q d h1 => by
                  have h := Exact_any (fun _ => True) nul nul ⟨p, c, q, d⟩ ⟨none, 0, none, 0⟩ w' h1 (Lies.flat _ 0 0 0 ⟨#[]⟩ _ (Nat.zero_le _))
                  rw [ex_yes rfl] at h; exact h)
                obtain ⟨⟨t0, t1, t2, t3, t4, t5⟩, ⟨v0, v1, v2, v3, v4, v5⟩, ⟨x0, x1, x2, x3, x4, x5⟩, y0, y1, y2, y3, y4, y5⟩ := SK.out _ KX.out
                by_cases hv0 : v.k = 0
                · have hvk : (v.k != 0) = false := by rw [hv0]; rfl
                  have GN2 := Lib.hid (GN.out hv0)
                  clear hv0
                  go_wp2_with fail
                  go_region_held3 (fun w' => (w'.cell? ⟨A0, 0, none⟩ = some (.int .i64 o.k) ∧ w'.cell? ⟨A0, 1, none⟩ = some (.int .i64 o.n) ∧ w'.cell? ⟨A0, 2, none⟩ = some (.int .i64 o.f) ∧ w'.cell? ⟨A0, 3, none⟩ = some (.string o.s) ∧ w'.cell? ⟨A0, 4, none⟩ = some (.slice po o.l.length co) ∧ w'.cell? ⟨A0, 5, none⟩ = some (.slice qo o.d.length eo)) ∧ (w'.cell? ⟨B0, 0, none⟩ = some (.int .i64 v.k) ∧ w'.cell? ⟨B0, 1, none⟩ = some (.int .i64 v.n) ∧ w'.cell? ⟨B0, 2, none⟩ = some (.int .i64 v.f) ∧ w'.cell? ⟨B0, 3, none⟩ = some (.string v.s) ∧ w'.cell? ⟨B0, 4, none⟩ = some (.slice pv v.l.length cv) ∧ w'.cell? ⟨B0, 5, none⟩ = some (.slice qv v.d.length ev)) ∧ (w'.cell? ⟨D0, 0, none⟩ = some (.int .i64 A.k) ∧ w'.cell? ⟨D0, 1, none⟩ = some (.int .i64 A.n) ∧ w'.cell? ⟨D0, 2, none⟩ = some (.int .i64 A.f) ∧ w'.cell? ⟨D0, 3, none⟩ = some (.string A.s) ∧ w'.cell? ⟨D0, 4, none⟩ = some (.slice p1 A.l.length c1) ∧ w'.cell? ⟨D0, 5, none⟩ = some (.slice q1 A.d.length d1)) ∧ (w'.cell? ⟨E0, 0, none⟩ = some (.int .i64 B.k) ∧ w'.cell? ⟨E0, 1, none⟩ = some (.int .i64 B.n) ∧ w'.cell? ⟨E0, 2, none⟩ = some (.int .i64 B.f) ∧ w'.cell? ⟨E0, 3, none⟩ = some (.string B.s) ∧ w'.cell? ⟨E0, 4, none⟩ = some (.slice p2 B.l.length c2) ∧ w'.cell? ⟨E0, 5, none⟩ = some (.slice q2 B.d.length d2))) (go_keep)
                    (first
                    | (go_at_call 10; (first | (with_reducible refine (CA.out _ KX.out).mono ?_) | (with_reducible refine (CA.out _ KX.out.drew).mono ?_)); rintro e wn ⟨p, c, q, d, rfl, kn, lx⟩; have LX := Lib.hid lx; (first | (with_reducible have KX := Lib.hid (KX.out.trans kn)) | (with_reducible have KX := Lib.hid (KX.out.drew.trans kn))); obtain ⟨⟨t0, t1, t2, t3, t4, t5⟩, ⟨v0, v1, v2, v3, v4, v5⟩, ⟨x0, x1, x2, x3, x4, x5⟩, y0, y1, y2, y3, y4, y5⟩ := SK.out _ KX.out)
                    | (go_at_call 11; (first | (with_reducible refine (GN2.out _ KX.out).mono ?_) | (with_reducible refine (GN2.out _ KX.out.drew).mono ?_)); rintro e wn ⟨p', c', q', d', rfl, kn, ly⟩; have LY := Lib.hid ly; (first | (with_reducible have KX := Lib.hid (KX.out.trans kn)) | (with_reducible have KX := Lib.hid (KX.out.drew.trans kn))); obtain ⟨⟨t0, t1, t2, t3, t4, t5⟩, ⟨v0, v1, v2, v3, v4, v5⟩, ⟨x0, x1, x2, x3, x4, x5⟩, y0, y1, y2, y3, y4, y5⟩ := SK.out _ KX.out)
                    | (go_at_call 9; (first | (with_reducible refine (EA.out _ _ _ _ _ KX.out LX.out).mono ?_) | (with_reducible refine (EA.out _ _ _ _ _ KX.out.drew (LX.out.kept (Kept.refl _).drew)).mono ?_)); rintro e wn ⟨rfl, kn⟩; (first | (with_reducible have KX := Lib.hid (KX.out.trans kn)) | (with_reducible have KX := Lib.hid (KX.out.drew.trans kn))); obtain ⟨⟨t0, t1, t2, t3, t4, t5⟩, ⟨v0, v1, v2, v3, v4, v5⟩, ⟨x0, x1, x2, x3, x4, x5⟩, y0, y1, y2, y3, y4, y5⟩ := SK.out _ KX.out)
                    | (go_at_call 9; (first | (with_reducible refine (EN.out _ _ _ _ _ LY.out).mono ?_) | (with_reducible refine (EN.out _ _ _ _ _ (LY.out.kept (Kept.refl _).drew)).mono ?_)); rintro e wn ⟨rfl, kn⟩; (first | (with_reducible have KX := Lib.hid (KX.out.trans kn)) | (with_reducible have KX := Lib.hid (KX.out.drew.trans kn))); obtain ⟨⟨t0, t1, t2, t3, t4, t5⟩, ⟨v0, v1, v2, v3, v4, v5⟩, ⟨x0, x1, x2, x3, x4, x5⟩, y0, y1, y2, y3, y4, y5⟩ := SK.out _ KX.out))
                  all_goals
                    go_wp2_with fail
                    go_ret
                    exact ⟨rfl, KW.out.trans KX.out⟩
                · have hvk : (v.k != 0) = true := by rw [bne_iff_ne]; exact hv0
                  clear hv0
                  go_wp2_with fail
                  refine wp_region_held_drew (S := fun w' => (w'.cell? ⟨A0, 0, none⟩ = some (.int .i64 o.k) ∧ w'.cell? ⟨A0, 1, none⟩ = some (.int .i64 o.n) ∧ w'.cell? ⟨A0, 2, none⟩ = some (.int .i64 o.f) ∧ w'.cell? ⟨A0, 3, none⟩ = some (.string o.s) ∧ w'.cell? ⟨A0, 4, none⟩ = some (.slice po o.l.length co) ∧ w'.cell? ⟨A0, 5, none⟩ = some (.slice qo o.d.length eo)) ∧ (w'.cell? ⟨B0, 0, none⟩ = some (.int .i64 v.k) ∧ w'.cell? ⟨B0, 1, none⟩ = some (.int .i64 v.n) ∧ w'.cell? ⟨B0, 2, none⟩ = some (.int .i64 v.f) ∧ w'.cell? ⟨B0, 3, none⟩ = some (.string v.s) ∧ w'.cell? ⟨B0, 4, none⟩ = some (.slice pv v.l.length cv) ∧ w'.cell? ⟨B0, 5, none⟩ = some (.slice qv v.d.length ev)) ∧ (w'.cell? ⟨D0, 0, none⟩ = some (.int .i64 A.k) ∧ w'.cell? ⟨D0, 1, none⟩ = some (.int .i64 A.n) ∧ w'.cell? ⟨D0, 2, none⟩ = some (.int .i64 A.f) ∧ w'.cell? ⟨D0, 3, none⟩ = some (.string A.s) ∧ w'.cell? ⟨D0, 4, none⟩ = some (.slice p1 A.l.length c1) ∧ w'.cell? ⟨D0, 5, none⟩ = some (.slice q1 A.d.length d1)) ∧ (w'.cell? ⟨E0, 0, none⟩ = some (.int .i64 B.k) ∧ w'.cell? ⟨E0, 1, none⟩ = some (.int .i64 B.n) ∧ w'.cell? ⟨E0, 2, none⟩ = some (.int .i64 B.f) ∧ w'.cell? ⟨E0, 3, none⟩ = some (.string B.s) ∧ w'.cell? ⟨E0, 4, none⟩ = some (.slice p2 B.l.length c2) ∧ w'.cell? ⟨E0, 5, none⟩ = some (.slice q2 B.d.length d2))) (by kernel_rfl) ?_ (fun hHeld => ?_)
                  · go_keep
                  refine wpAnyH_take (i := 0) (oi := ⟨some 86, _, _, _, _, _⟩) (v := ?_) rfl (by kernel_rfl) (by kernel_rfl) (by kernel_rfl) (fun _ _ _ h => h) (Or.inl ⟨by rfl, ?_⟩) (by assumption) ?_
                  rotate_left 1
                  · (intro w hSw; (try dsimp only at hSw); go_simp <;> with_reducible rfl)
                  try simp only [Act.put, List.setIfInBounds_toArray, List.set_cons_zero, List.set_cons_succ]
                  refine wpAnyH_take (i := 1) (oi := ⟨some 87, _, _, _, _, _⟩) (v := ?_) rfl (by kernel_rfl) (by kernel_rfl) (by kernel_rfl) (fun _ _ _ h => h) (Or.inl ⟨by rfl, ?_⟩) (by assumption) ?_
                  rotate_left 1
                  · (intro w hSw; (try dsimp only at hSw); go_simp <;> with_reducible rfl)
                  try simp only [Act.put, List.setIfInBounds_toArray, List.set_cons_zero, List.set_cons_succ]
                  refine wpAnyH_take (i := 2) (oi := ⟨some 88, _, _, _, _, _⟩) (v := ?_) rfl (by kernel_rfl) (by kernel_rfl) (by kernel_rfl) (fun _ _ _ h => h) (Or.inl ⟨by rfl, ?_⟩) (by assumption) ?_
                  rotate_left 1
                  · (intro w hSw; (try dsimp only at hSw); go_simp <;> with_reducible rfl)
                  try simp only [Act.put, List.setIfInBounds_toArray, List.set_cons_zero, List.set_cons_succ]
                  refine wpAnyH_take (i := 3) (oi := ⟨some 89, _, _, _, _, _⟩) (v := ?_) rfl (by kernel_rfl) (by kernel_rfl) (by kernel_rfl) (fun _ _ _ h => h) (Or.inl ⟨by rfl, ?_⟩) (by assumption) ?_
                  rotate_left 1
                  · (intro w hSw; (try dsimp only at hSw); go_simp <;> with_reducible rfl)
                  try simp only [Act.put, List.setIfInBounds_toArray, List.set_cons_zero, List.set_cons_succ]
                  refine wpAnyH_take (i := 4) (oi := ⟨some 90, _, _, _, _, _⟩) (v := ?_) rfl (by kernel_rfl) (by kernel_rfl) (by kernel_rfl) (fun _ _ _ h => h) (Or.inl ⟨by rfl, ?_⟩) (by assumption) ?_
                  rotate_left 1
                  · (intro w hSw; (try dsimp only at hSw); go_simp <;> with_reducible rfl)
                  try simp only [Act.put, List.setIfInBounds_toArray, List.set_cons_zero, List.set_cons_succ]
                  refine wpAnyH_take (i := 6) (oi := ⟨some 92, _, _, _, _, _⟩) (v := ?_) rfl (by kernel_rfl) (by kernel_rfl) (by kernel_rfl) (fun _ _ _ h => h) (Or.inl ⟨by rfl, ?_⟩) (by assumption) ?_
                  rotate_left 1
                  · (intro w hSw; (try dsimp only at hSw); go_simp <;> with_reducible rfl)
                  try simp only [Act.put, List.setIfInBounds_toArray, List.set_cons_zero, List.set_cons_succ]
                  refine wpAnyH_ready (rs := [5]) (by kernel_rfl) (by simp) ?_
                  refine AllReadyH.cons (o := ⟨some 91, _, _, _, _, _⟩) rfl (fun K hK => ?_) AllReadyH.nil
                  go_simp
                  (first | (with_reducible refine (CA.out _ KX.out).mono ?_) | (with_reducible refine (CA.out _ KX.out.drew).mono ?_)); rintro e wn ⟨p, c, q, d, rfl, kn, lx⟩; have LX := Lib.hid lx; (first | (with_reducible have KX := Lib.hid (KX.out.trans kn)) | (with_reducible have KX := Lib.hid (KX.out.drew.trans kn))); obtain ⟨⟨t0, t1, t2, t3, t4, t5⟩, ⟨v0, v1, v2, v3, v4, v5⟩, ⟨x0, x1, x2, x3, x4, x5⟩, y0, y1, y2, y3, y4, y5⟩ := SK.out _ KX.out
                  refine hK.out _ _ ?_ (fun hHeld => ?_)
                  · go_keep
                  clear hK K
                  try simp only [Act.put, List.setIfInBounds_toArray, List.set_cons_zero, List.set_cons_succ]
                  refine wpAnyH_ready (rs := [7]) (by kernel_rfl) (by simp) ?_
                  refine AllReadyH.cons (o := ⟨some 93, _, _, _, _, _⟩) rfl (fun K hK => ?_) AllReadyH.nil
                  go_simp
                  (first | (with_reducible refine (EA.out _ _ _ _ _ KX.out LX.out).mono ?_) | (with_reducible refine (EA.out _ _ _ _ _ KX.out.drew (LX.out.kept (Kept.refl _).drew)).mono ?_)); rintro e wn ⟨rfl, kn⟩; (first | (with_reducible have KX := Lib.hid (KX.out.trans kn)) | (with_reducible have KX := Lib.hid (KX.out.drew.trans kn))); obtain ⟨⟨t0, t1, t2, t3, t4, t5⟩, ⟨v0, v1, v2, v3, v4, v5⟩, ⟨x0, x1, x2, x3, x4, x5⟩, y0, y1, y2, y3, y4, y5⟩ := SK.out _ KX.out
                  refine hK.out _ _ ?_ (fun hHeld => ?_)
                  · go_keep
                  clear hK K
                  try simp only [Act.put, List.setIfInBounds_toArray, List.set_cons_zero, List.set_cons_succ]
                  refine wpAnyH_take (i := 8) (oi := ⟨some 94, _, _, _, _, _⟩) (v := ?_) rfl (by kernel_rfl) (by kernel_rfl) (by kernel_rfl) (fun _ _ _ h => h) (Or.inl ⟨by rfl, ?_⟩) (by assumption) ?_
                  rotate_left 1
                  · (intro w hSw; (try dsimp only at hSw); go_simp <;> with_reducible rfl)
                  try simp only [Act.put, List.setIfInBounds_toArray, List.set_cons_zero, List.set_cons_succ]
                  refine wpAnyH_take (i := 9) (oi := ⟨some 95, _, _, _, _, _⟩) (v := ?_) rfl (by kernel_rfl) (by kernel_rfl) (by kernel_rfl) (fun _ _ _ h => h) (Or.inl ⟨by rfl, ?_⟩) (by assumption) ?_
                  rotate_left 1
                  · (intro w hSw; (try dsimp only at hSw); go_simp <;> with_reducible rfl)
                  try simp only [Act.put, List.setIfInBounds_toArray, List.set_cons_zero, List.set_cons_succ]
                  refine wpAnyH_take (i := 10) (oi := ⟨some 96, _, _, _, _, _⟩) (v := ?_) rfl (by kernel_rfl) (by kernel_rfl) (by kernel_rfl) (fun _ _ _ h => h) (Or.inl ⟨by rfl, ?_⟩) (by assumption) ?_
                  rotate_left 1
                  · (intro w hSw; (try dsimp only at hSw); go_simp <;> with_reducible rfl)
                  try simp only [Act.put, List.setIfInBounds_toArray, List.set_cons_zero, List.set_cons_succ]
                  refine wpAnyH_take (i := 11) (oi := ⟨some 97, _, _, _, _, _⟩) (v := ?_) rfl (by kernel_rfl) (by kernel_rfl) (by kernel_rfl) (fun _ _ _ h => h) (Or.inl ⟨by rfl, ?_⟩) (by assumption) ?_
                  rotate_left 1
                  · (intro w hSw; (try dsimp only at hSw); go_simp <;> with_reducible rfl)
                  try simp only [Act.put, List.setIfInBounds_toArray, List.set_cons_zero, List.set_cons_succ]
                  refine wpAnyH_take (i := 12) (oi := ⟨some 98, _, _, _, _, _⟩) (v := ?_) rfl (by kernel_rfl) (by kernel_rfl) (by kernel_rfl) (fun _ _ _ h => h) (Or.inl ⟨by rfl, ?_⟩) (by assumption) ?_
                  rotate_left 1
                  · (intro w hSw; (try dsimp only at hSw); go_simp <;> with_reducible rfl)
                  try simp only [Act.put, List.setIfInBounds_toArray, List.set_cons_zero, List.set_cons_succ]
                  refine wpAnyH_take (i := 13) (oi := ⟨some 99, _, _, _, _, _⟩) (v := ?_) rfl (by kernel_rfl) (by kernel_rfl) (by kernel_rfl) (fun _ _ _ h => h) (Or.inl ⟨by rfl, ?_⟩) (by assumption) ?_
                  rotate_left 1
                  · (intro w hSw; (try dsimp only at hSw); go_simp <;> with_reducible rfl)
                  try simp only [Act.put, List.setIfInBounds_toArray, List.set_cons_zero, List.set_cons_succ]
                  refine wpAnyH_take (i := 14) (oi := ⟨some 100, _, _, _, _, _⟩) (v := undef) rfl (by kernel_rfl) (by kernel_rfl) (by kernel_rfl) (fun _ _ _ h => h) (Or.inr ⟨by rfl, rfl⟩) (by assumption) ?_
                  try simp only [Act.put, List.setIfInBounds_toArray, List.set_cons_zero, List.set_cons_succ]
                  refine wpAnyH_take (i := 15) (oi := ⟨some 101, _, _, _, _, _⟩) (v := undef) rfl (by kernel_rfl) (by kernel_rfl) (by kernel_rfl) (fun _ _ _ h => h) (Or.inr ⟨by rfl, rfl⟩) (by assumption) ?_
                  try simp only [Act.put, List.setIfInBounds_toArray, List.set_cons_zero, List.set_cons_succ]
                  refine wpAnyH_take (i := 16) (oi := ⟨some 102, _, _, _, _, _⟩) (v := undef) rfl (by kernel_rfl) (by kernel_rfl) (by kernel_rfl) (fun _ _ _ h => h) (Or.inr ⟨by rfl, rfl⟩) (by assumption) ?_
                  try simp only [Act.put, List.setIfInBounds_toArray, List.set_cons_zero, List.set_cons_succ]
                  refine wpAnyH_take (i := 17) (oi := ⟨some 103, _, _, _, _, _⟩) (v := undef) rfl (by kernel_rfl) (by kernel_rfl) (by kernel_rfl) (fun _ _ _ h => h) (Or.inr ⟨by rfl, rfl⟩) (by assumption) ?_
                  try simp only [Act.put, List.setIfInBounds_toArray, List.set_cons_zero, List.set_cons_succ]
                  refine wpAnyH_take (i := 18) (oi := ⟨some 104, _, _, _, _, _⟩) (v := undef) rfl (by kernel_rfl) (by kernel_rfl) (by kernel_rfl) (fun _ _ _ h => h) (Or.inr ⟨by rfl, rfl⟩) (by assumption) ?_
                  try simp only [Act.put, List.setIfInBounds_toArray, List.set_cons_zero, List.set_cons_succ]
                  refine wpAnyH_take (i := 19) (oi := ⟨some 105, _, _, _, _, _⟩) (v := ?_) rfl (by kernel_rfl) (by kernel_rfl) (by kernel_rfl) (fun _ _ _ h => h) (Or.inl ⟨by rfl, ?_⟩) (by assumption) ?_
                  rotate_left 1
                  · (intro w hSw; (try dsimp only at hSw); go_simp <;> with_reducible rfl)
                  try simp only [Act.put, List.setIfInBounds_toArray, List.set_cons_zero, List.set_cons_succ]
                  refine wpAnyH_take (i := 20) (oi := ⟨some 106, _, _, _, _, _⟩) (v := ?_) rfl (by kernel_rfl) (by kernel_rfl) (by kernel_rfl) (fun _ _ _ h => h) (Or.inl ⟨by rfl, ?_⟩) (by assumption) ?_
                  rotate_left 1
                  · (intro w hSw; (try dsimp only at hSw); go_simp <;> with_reducible rfl)
                  try simp only [Act.put, List.setIfInBounds_toArray, List.set_cons_zero, List.set_cons_succ]
                  refine wpAnyH_take (i := 21) (oi := ⟨some 8, _, _, _, _, _⟩) (v := ?_) rfl (by kernel_rfl) (by kernel_rfl) (by kernel_rfl) (fun _ _ _ h => h) (Or.inl ⟨by rfl, ?_⟩) (by assumption) ?_
                  rotate_left 1
                  · (intro w hSw; (try dsimp only at hSw); go_simp <;> with_reducible rfl)
                  try simp only [Act.put, List.setIfInBounds_toArray, List.set_cons_zero, List.set_cons_succ]
                  refine wpAnyH_done (by kernel_rfl) ?_ _
                  all_goals
                    go_wp2_with fail
                    go_ret
                    exact ⟨rfl, KW.out.trans KX.out⟩

end Go.Proofs.Ytdfgbdonnpbfcaa
