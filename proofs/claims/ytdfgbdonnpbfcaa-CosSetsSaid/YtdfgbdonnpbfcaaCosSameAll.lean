/-
  What package cos's Same says of any two objects.
-/
import Derived.Test.YtdfgbdonnpbfcaaCosSameEnts
namespace Go.Proofs.Ytdfgbdonnpbfcaa
open Go.RowKit Cx

set_option maxRecDepth 100000 in
set_option maxHeartbeats 4000000 in
theorem Same_step (P : Nat → Prop) (x : Ob) (hxw : x.wt ≤ 4294967296) (IHL : ∀ z ∈ x.l, SameC P z) (IHD : ∀ e ∈ x.d, SameC P e.2) (y : Ob) (hx hy : Hd) (w : World) (h1 : Lies (Cel P w) x hx) (h2 : Lies (Cel P w) y hy) (hyw : y.wt ≤ 4294967296) :
    Calls Try.prog 12 #[objV x hx, objV y hy] w fun e w' => e = .returned (.bool (x.same y)) ∧ Kept w w' := by
  have HQ := Lib.hid (same_eq x y)
  have H1 := Lib.hid h1
  have H2 := Lib.hid h2
  obtain ⟨p1, c1, q1, e1⟩ := hx
  obtain ⟨p2, c2, q2, e2⟩ := hy
  have EF := Lib.hid (fun w' (k : Kept w w') => EqualFunc_same P x.l y.l p1 p2 c1 c2 w' (h1.kept k).listOnly (h2.kept k).listOnly IHL (fun z hz => by have := wt_l hz; omega))
  have SE := Lib.hid (fun w' (k : Kept w w') => sameEntries_any P x.d y.d q1 q2 e1 e2 w' (h1.kept k).entsOnly (h2.kept k).entsOnly IHD (fun e he => by have := wt_d he; omega) (by have := (wt_len x).2.1; omega) (by have := (wt_len y).2.1; omega))
  clear h1 h2 IHL IHD hxw hyw
  obtain ⟨k, n, f, s, l, d⟩ := x
  obtain ⟨k', n', f', s', l', d'⟩ := y
  unfold objV
  simp only [Ob.k, Ob.n, Ob.f, Ob.s, Ob.l, Ob.d] at HQ EF SE ⊢
  obtain ⟨R, hR⟩ : ∃ R, R = (Ob.mk k n f s l d).same (Ob.mk k' n' f' s' l' d') := ⟨_, rfl⟩
  rw [← hR] at HQ ⊢
  clear hR
  have HI := Lib.hid (In.fresh' (k := w.heap.size + 1) (In.fresh (In.start w) #[.int .i64 k, .int .i64 n, .int .i64 f, .string s, .slice p1 l.length c1, .slice q1 d.length e1] 26) #[.int .i64 k', .int .i64 n', .int .i64 f', .string s', .slice p2 l'.length c2, .slice q2 d'.length e2] 26 (by simp))
  have KI := Lib.hid (In.k HI.out)
  by_cases ha : (k == k' && f == f' && keq s s') = true
  · obtain ⟨⟨hk, hf⟩, hs⟩ : ((k == k') = true ∧ (f == f') = true) ∧ keq s s' = true := by simpa [Bool.and_eq_true] using ha
    have HQ1 := Lib.hid (show R = ((n == n' || k == 2) && sameL l l' && (nkGo [] d == nkGo [] d' && sameE [] d d')) by rw [HQ.out, ha, Bool.true_and])
    rw [beq_iff_eq] at hk hf
    rw [keq_iff] at hs
    subst hk hf hs
    clear ha
    cases hn : (n == n')
    · have hn' : (n != n') = true := by rw [bne, hn]; rfl
      cases h2 : (k == 2)
      · have hk2' : (k != 2) = true := by rw [bne, h2]; rfl
        have HA := Lib.hid (show R = false by rw [HQ1.out, hn, h2]; rfl)
        clear hn h2
        go_enter Try.func12, Try.ntmps12
        go_wp2_with fail
        go_ret
        exact ⟨ret_bool HA.out.symm, KI.out⟩
      · have hk2' : (k != 2) = false := by rw [bne, h2]; rfl
        have HQ2 := Lib.hid (show R = (sameL l l' && (nkGo [] d == nkGo [] d' && sameE [] d d')) by rw [HQ1.out, hn, h2]; rfl)
        clear hn h2
        go_enter Try.func12, Try.ntmps12
        go_wp2_with fail
        (with_reducible refine (EF.out _ KI.out).mono ?_)
        rintro e w2 ⟨rfl, hk2⟩
        have HI2 := Lib.hid (HI.out.kept hk2)
        have K2 := Lib.hid (In.k HI2.out)
        obtain ⟨u0, u1, u2, u3, u4, u5⟩ := (HI2.out.mem (List.mem_cons_of_mem _ List.mem_cons_self)).cells6
        obtain ⟨v0, v1, v2, v3, v4, v5⟩ := (HI2.out.mem List.mem_cons_self).cells6
        clear hk2
        cases hL : sameL l l'
        · have HA := Lib.hid (show R = false by rw [HQ2.out, hL, Bool.false_and])
          go_wp2_with fail
          go_ret
          exact ⟨ret_bool HA.out.symm, K2.out⟩
        · have HA := Lib.hid (show R = (nkGo [] d == nkGo [] d' && sameE [] d d') by rw [HQ2.out, hL, Bool.true_and])
          go_wp2_with fail
          (with_reducible refine (SE.out _ K2.out).mono ?_)
          rintro e w3 ⟨rfl, hk3⟩
          have K3 := Lib.hid (K2.out.trans hk3)
          clear hk3
          go_wp2_with fail
          go_ret
          exact ⟨ret_bool HA.out.symm, K3.out⟩
    · have hn' : (n != n') = false := by rw [bne, hn]; rfl
      have HQ2 := Lib.hid (show R = (sameL l l' && (nkGo [] d == nkGo [] d' && sameE [] d d')) by rw [HQ1.out, hn]; rfl)
      clear hn
      go_enter Try.func12, Try.ntmps12
      go_wp2_with fail
      (with_reducible refine (EF.out _ KI.out).mono ?_)
      rintro e w2 ⟨rfl, hk2⟩
      have HI2 := Lib.hid (HI.out.kept hk2)
      have K2 := Lib.hid (In.k HI2.out)
      obtain ⟨u0, u1, u2, u3, u4, u5⟩ := (HI2.out.mem (List.mem_cons_of_mem _ List.mem_cons_self)).cells6
      obtain ⟨v0, v1, v2, v3, v4, v5⟩ := (HI2.out.mem List.mem_cons_self).cells6
      clear hk2
      cases hL : sameL l l'
      · have HA := Lib.hid (show R = false by rw [HQ2.out, hL, Bool.false_and])
        go_wp2_with fail
        go_ret
        exact ⟨ret_bool HA.out.symm, K2.out⟩
      · have HA := Lib.hid (show R = (nkGo [] d == nkGo [] d' && sameE [] d d') by rw [HQ2.out, hL, Bool.true_and])
        go_wp2_with fail
        (with_reducible refine (SE.out _ K2.out).mono ?_)
        rintro e w3 ⟨rfl, hk3⟩
        have K3 := Lib.hid (K2.out.trans hk3)
        clear hk3
        go_wp2_with fail
        go_ret
        exact ⟨ret_bool HA.out.symm, K3.out⟩
  · have HA := Lib.hid (show R = false by
      rw [HQ.out]
      have : (k == k' && f == f' && keq s s') = false := by simpa using ha
      rw [this]; rfl)
    cases hk : (k == k')
    · have hk' : (k != k') = true := by rw [bne, hk]; rfl
      clear hk ha
      go_enter Try.func12, Try.ntmps12
      go_wp2_with fail
      go_ret
      exact ⟨ret_bool HA.out.symm, KI.out⟩
    · have hk' : (k != k') = false := by rw [bne, hk]; rfl
      cases hf : (f == f')
      · have hf' : (f != f') = true := by rw [bne, hf]; rfl
        clear hk hf ha
        go_enter Try.func12, Try.ntmps12
        go_wp2_with fail
        go_ret
        exact ⟨ret_bool HA.out.symm, KI.out⟩
      · have hf' : (f != f') = false := by rw [bne, hf]; rfl
        have hs : (s.toList == s'.toList) = false := by
          cases hs : keq s s'
          · exact hs
          · rw [hk, hf, hs] at ha; exact absurd rfl ha
        clear hk hf ha
        go_enter Try.func12, Try.ntmps12
        go_wp2_with fail
        go_ret
        exact ⟨ret_bool HA.out.symm, KI.out⟩

theorem Same_any (P : Nat → Prop) (N : Nat) : ∀ (x : Ob), SizeOf.sizeOf x ≤ N → x.wt ≤ 4294967296 → SameC P x := by
  induction N with
  | zero =>
    intro x hN
    cases x; simp at hN
  | succ N ih =>
    intro x hN hw y hx hy w h1 h2 hyw
    exact Same_step P x hw (fun z hz => ih z (by have := sizeOf_l hz; omega) (by have := wt_l hz; omega)) (fun e he => ih e.2 (by have := sizeOf_d he; omega) (by have := wt_d he; omega)) y hx hy w h1 h2 hyw

theorem cosSame_any (P : Nat → Prop) (x y : Ob) (hx hy : Hd) (w : World) (h1 : Lies (Cel P w) x hx) (h2 : Lies (Cel P w) y hy) (hxw : x.wt ≤ 4294967296) (hyw : y.wt ≤ 4294967296) :
    Calls Try.prog 12 #[objV x hx, objV y hy] w fun e w' => e = .returned (.bool (x.same y)) ∧ Kept w w' :=
  Same_any P _ x (Nat.le_refl _) hxw y hx hy w h1 h2 hyw

end Go.Proofs.Ytdfgbdonnpbfcaa
