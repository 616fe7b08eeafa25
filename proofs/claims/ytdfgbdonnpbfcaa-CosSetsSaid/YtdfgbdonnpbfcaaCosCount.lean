/-
  What package cos's hasEntries, isNull and Count answer.
-/
import Derived.Test.YtdfgbdonnpbfcaaCosLies
import Derived.Deep.LoopGhost
namespace Go.Proofs.Ytdfgbdonnpbfcaa
open Go.RowKit Cx

theorem hasEntries_any (o : Ob) (h : Hd) (w : World) (b : Bool) (hb : b = o.ents) :
    Calls Try.prog 17 #[objV o h] w fun e w' => e = .returned (.bool b) ∧ Kept w w' := by
  unfold objV
  have hb' : b = (o.k == 6 || o.k == 8) := hb
  clear hb
  obtain ⟨k, n, f, s, l, d⟩ := o
  simp only [Ob.k, Ob.n, Ob.f, Ob.s, Ob.l, Ob.d] at hb' ⊢
  have HB := Lib.hid hb'
  clear hb'
  cases h6 : (k == 6)
  · go_enter Try.func17, Try.ntmps17
    go_wp2_with fail
    go_ret
    exact ⟨by rw [HB.out]; first | done | simp [h6], (Kept.refl w).alloc _ _⟩
  · go_enter Try.func17, Try.ntmps17
    go_wp2_with fail
    go_ret
    exact ⟨by rw [HB.out]; first | done | simp [h6], (Kept.refl w).alloc _ _⟩

theorem isNull_any (o : Ob) (h : Hd) (w : World) (b : Bool) (hb : b = (o.k == 0)) :
    Calls Try.prog 18 #[objV o h] w fun e w' => e = .returned (.bool b) ∧ Kept w w' := by
  unfold objV
  obtain ⟨k, n, f, s, l, d⟩ := o
  simp only [Ob.k, Ob.n, Ob.f, Ob.s, Ob.l, Ob.d] at hb ⊢
  have HB := Lib.hid hb
  clear hb
  go_enter Try.func18, Try.ntmps18
  go_wp2_with fail
  go_ret
  exact ⟨ret_bool HB.out.symm, (Kept.refl w).alloc _ _⟩

set_option maxRecDepth 100000 in
set_option maxHeartbeats 4000000 in
theorem Count_any (P : Nat → Prop) (N : Nat) : ∀ (o : Ob) (h : Hd) (w : World), SizeOf.sizeOf o ≤ N → Lies (Cel P w) o h → o.count ≤ 4294967296 →
    Calls Try.prog 13 #[objV o h] w fun e w' => e = .returned (.int .i64 o.count) ∧ Kept w w' := by
  induction N with
  | zero =>
    intro o h w hN
    cases o; simp at hN
  | succ N ih =>
    intro o h w hN hl hc
    have IHL := Lib.hid (fun (x : Ob) (hx : x ∈ o.l) h' w' => ih x h' w' (by have := sizeOf_l hx; omega))
    have IHD := Lib.hid (fun (x : Entr) (hx : x ∈ o.d) h' w' => ih x.2 h' w' (by have := sizeOf_d hx; omega))
    have hb := hl.bounds
    have HL := Lib.hid hl
    have HE := hasEntries_any o h
    obtain ⟨k, n, f, s, l, d⟩ := o
    have hcm := count_mk k n f s l d
    have HCM := Lib.hid hcm
    have HC := Lib.hid hc
    obtain ⟨hb1, hb2, _⟩ := hb
    unfold maxLen at hb1 hb2
    clear ih hN hl hc hcm
    unfold objV at HE ⊢
    simp only [Ob.k, Ob.n, Ob.f, Ob.s, Ob.l, Ob.d] at HE hb1 hb2 ⊢
    have HEE := Lib.hid HE
    clear HE
    obtain ⟨p, c, q, e⟩ := h
    simp only [] at HL HEE ⊢
    by_cases h5 : k = 5
    · subst h5
      have HK0 := Lib.hid ((Kept.refl w).alloc #[.int .i64 5, .int .i64 n, .int .i64 f, .string s, .slice p l.length c, .slice q d.length e] 26)
      have HB0 := Lib.hid (Blk.fresh w #[.int .i64 5, .int .i64 n, .int .i64 f, .string s, .slice p l.length c, .slice q d.length e] 26)
      have HC1 := Lib.hid (show (Ob.mk 5 n f s l d).count = 1 + countL l by rw [HCM.out]; simp)
      have HEF := Lib.hid (fun w => HEE.out w false rfl)
      go_enter Try.func13, Try.ntmps13
      go_wp2_with fail
      go_loopg [3, 14] (l.length) (fun m a i wr => ∃ j B : Nat, m = l.length - j ∧ j ≤ l.length ∧ i = .int .i64 j ∧ a = .int .i64 B ∧ Hid (B = 1 + countL (l.take j)) ∧ Kept w wr ∧ Blk wr w.heap.size #[.int .i64 5, .int .i64 n, .int .i64 f, .string s, .slice p l.length c, .slice q d.length e] 26)
      case atStart => exact ⟨0, 1, by omega, Nat.zero_le _, rfl, rfl, Lib.hid (by rw [List.take_zero, countL]), HK0.out, HB0.out⟩
      case round =>
        obtain ⟨j, B, hm, hj, rfl, rfl, HBB, hk, hbk⟩ := hrel
        have HK := Lib.hid hk
        have HB := Lib.hid hbk
        obtain ⟨t0, t1, t2, t3, t4, t5⟩ := hbk.cells6
        clear hk hbk HK0 HB0
        by_cases hlt : j < l.length
        · obtain ⟨x, b, off, ⟨p', c', q', e'⟩, hxe, hp, hP, hbl, hx, y0, y1, y2, y3, y4, y5⟩ := (HL.out.kept HK.out).elem j hlt
          simp only [Ob.l] at hxe
          have HCX := Lib.hid (countL_take_succ l j hlt)
          have hm1 := List.getElem_mem hlt
          rw [hxe] at HCX hm1
          simp only [] at hp
          subst hp
          have HX := Lib.hid hx
          have IHX := IHL.out x hm1 ⟨p', c', q', e'⟩
          have HSB := Lib.hid (show B + x.count = 1 + countL (l.take (j + 1)) by rw [HCX.out, HBB.out]; omega)
          obtain ⟨C, hC⟩ : ∃ C, C = x.count := ⟨_, rfl⟩
          have hcb : B + C ≤ 4294967296 := by
            have h1 := HSB.out
            have h3 := countL_take_le l (j + 1)
            have h4 := HC.out
            rw [HC1.out] at h4
            omega
          rw [← hC] at HSB
          obtain ⟨xk, xn, xf, xs, xl, xd⟩ := x
          unfold objV at IHX
          simp only [Ob.k, Ob.n, Ob.f, Ob.s, Ob.l, Ob.d] at IHX y0 y1 y2 y3 y4 y5
          have IX := Lib.hid IHX
          have HCC := Lib.hid hC
          clear IHX hx hm1 hxe hC hP
          go_wp2_with fail
          (with_reducible refine (IX.out _ ((HX.out.kept ((Kept.refl _).alloc _ _))) (by rw [← HCC.out]; omega)).mono ?_)
          rintro ee w4 ⟨rfl, hk4⟩
          rw [← HCC.out]
          have HK4 := Lib.hid ((HK.out.alloc _ _).trans hk4)
          have HB4 := Lib.hid ((HB.out.alloc _).kept hk4)
          clear hk4 t0 t1 t2 t3 t4 t5 y0 y1 y2 y3 y4 y5
          go_wp2_with fail
          go_roundg (l.length - (j + 1))
          case measure => omega
          case rel => exact ⟨j + 1, B + C, rfl, by omega, by go_num, by go_num, HSB, HK4.out, HB4.out⟩
        · obtain rfl : j = l.length := by omega
          have HA := Lib.hid (show ((B : Nat) : Int) = (((Ob.mk 5 n f s l d).count : Nat) : Int) by rw [HC1.out, HBB.out, List.take_of_length_le (Nat.le_refl _)])
          go_wp2_with fail
          (with_reducible refine (HEF.out _).mono ?_)
          rintro ee w3 ⟨rfl, hk3⟩
          have HK3 := Lib.hid (HK.out.trans hk3)
          clear hk3
          go_wp2_with fail
          go_ret
          exact ⟨ret_int HA.out, HK3.out⟩
    · have HK0 := Lib.hid ((Kept.refl w).alloc #[.int .i64 k, .int .i64 n, .int .i64 f, .string s, .slice p l.length c, .slice q d.length e] 26)
      have HB0 := Lib.hid (Blk.fresh w #[.int .i64 k, .int .i64 n, .int .i64 f, .string s, .slice p l.length c, .slice q d.length e] 26)
      have HEF := Lib.hid (fun w => HEE.out w (k == 6 || k == 8) rfl)
      go_enter Try.func13, Try.ntmps13
      go_wp2_with fail
      (with_reducible refine (HEF.out _).mono ?_)
      rintro ee w3 ⟨rfl, hk3⟩
      have HKE := Lib.hid (HK0.out.trans hk3)
      have HBE := Lib.hid (HB0.out.kept hk3)
      obtain ⟨t0, t1, t2, t3, t4, t5⟩ := HBE.out.cells6
      clear hk3 HK0 HB0
      by_cases hE : (k == 6 || k == 8) = true
      · have HC1 := Lib.hid (show (Ob.mk k n f s l d).count = 1 + countD d by
          rw [HCM.out]
          have : k = 6 ∨ k = 8 := by simpa using hE
          simp [this, h5])
        rw [hE]
        clear hE HEF HEE
        go_wp2_with fail
        go_loopg [3, 28] (d.length) (fun m a i wr => ∃ j B : Nat, m = d.length - j ∧ j ≤ d.length ∧ i = .int .i64 j ∧ a = .int .i64 B ∧ Hid (B = 1 + countD (d.take j)) ∧ Kept w wr ∧ Blk wr w.heap.size #[.int .i64 k, .int .i64 n, .int .i64 f, .string s, .slice p l.length c, .slice q d.length e] 26)
        case atStart => exact ⟨0, 1, by omega, Nat.zero_le _, rfl, rfl, Lib.hid (by rw [List.take_zero, countD]), HKE.out, HBE.out⟩
        case round =>
          obtain ⟨j, B, hm, hj, rfl, rfl, HBB, hk, hbk⟩ := hrel
          have HK := Lib.hid hk
          have HB := Lib.hid hbk
          clear t0 t1 t2 t3 t4 t5
          obtain ⟨t0, t1, t2, t3, t4, t5⟩ := hbk.cells6
          clear hk hbk HKE HBE
          by_cases hlt : j < d.length
          · obtain ⟨key, x, b, off, ⟨p', c', q', e'⟩, hxe, hp, hP, hbl, hx, hks, z0, y0, y1, y2, y3, y4, y5⟩ := (HL.out.kept HK.out).entry j hlt
            simp only [Ob.d] at hxe
            have HCX := Lib.hid (countD_take_succ d j hlt)
            have hm1 := List.getElem_mem hlt
            rw [hxe] at HCX hm1
            simp only [] at hp
            subst hp
            have HX := Lib.hid hx
            have IHX := IHD.out (key, x) hm1 ⟨p', c', q', e'⟩
            have HSB := Lib.hid (show B + x.count = 1 + countD (d.take (j + 1)) by have h := HCX.out; simp only [] at h; rw [h, HBB.out]; omega)
            obtain ⟨C, hC⟩ : ∃ C, C = x.count := ⟨_, rfl⟩
            have hcb : B + C ≤ 4294967296 := by
              have h1 := HSB.out
              have h3 := countD_take_le d (j + 1)
              have h4 := HC.out
              rw [HC1.out] at h4
              omega
            rw [← hC] at HSB
            obtain ⟨xk, xn, xf, xs, xl, xd⟩ := x
            unfold objV at IHX
            simp only [Ob.k, Ob.n, Ob.f, Ob.s, Ob.l, Ob.d] at IHX y0 y1 y2 y3 y4 y5
            have IX := Lib.hid IHX
            have HCC := Lib.hid hC
            clear IHX hx hm1 hxe hC hP
            go_wp2_with fail
            (with_reducible refine (IX.out _ ((HX.out.kept ((Kept.refl _).alloc _ _))) (by rw [← HCC.out]; omega)).mono ?_)
            rintro ee w4 ⟨rfl, hk4⟩
            rw [← HCC.out]
            have HK4 := Lib.hid ((HK.out.alloc _ _).trans hk4)
            have HB4 := Lib.hid ((HB.out.alloc _).kept hk4)
            clear hk4 t0 t1 t2 t3 t4 t5 z0 y0 y1 y2 y3 y4 y5
            go_wp2_with fail
            go_roundg (d.length - (j + 1))
            case measure => omega
            case rel => exact ⟨j + 1, B + C, rfl, by omega, by go_num, by go_num, HSB, HK4.out, HB4.out⟩
          · obtain rfl : j = d.length := by omega
            have HA := Lib.hid (show ((B : Nat) : Int) = (((Ob.mk k n f s l d).count : Nat) : Int) by rw [HC1.out, HBB.out, List.take_of_length_le (Nat.le_refl _)])
            go_wp2_with fail
            go_ret
            exact ⟨ret_int HA.out, HK.out⟩
      · have hE' : (k == 6 || k == 8) = false := by simpa using hE
        have HA := Lib.hid (show (1 : Int) = (((Ob.mk k n f s l d).count : Nat) : Int) by
          rw [HCM.out]
          have h6 : ¬ (k = 6 ∨ k = 8) := by simpa using hE
          simp [h6, h5])
        rw [hE']
        clear hE hE'
        go_wp2_with fail
        go_ret
        exact ⟨ret_int HA.out, HKE.out⟩

end Go.Proofs.Ytdfgbdonnpbfcaa
