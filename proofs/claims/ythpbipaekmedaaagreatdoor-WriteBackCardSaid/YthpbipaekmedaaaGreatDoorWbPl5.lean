/-
  What the law's plain answers of an object of kind 5.
-/
import Derived.Test.YthpbipaekmedaaaGreatDoorWbPl
namespace Go.Proofs.YthpbipaekmedaaaGreatDoor
open Go.RowKit Cx
set_option linter.unusedSimpArgs false
set_option linter.unusedVariables false

set_option maxRecDepth 100000 in
set_option maxHeartbeats 60000000 in
theorem plain_5 (P : Nat → Prop) (n f : Int) (s : ByteArray) (l : List Ob) (d : List Entr) (IHL : ∀ z ∈ l, PlC P z) (IHD : ∀ e ∈ d, PlC P e.2) : PlC P (.mk 5 n f s l d) := by
  intro h w h1
  have H1 := Lib.hid h1
  have HIL := Lib.hid IHL
  have HID := Lib.hid IHD
  have hb := h1.bounds
  obtain ⟨p1, c1, q1, e1⟩ := h
  clear h1 IHL IHD
  obtain ⟨hb1, hb2, _⟩ := hb
  unfold maxLen at hb1 hb2
  simp only [Ob.l, Ob.d] at hb1 hb2
  obtain ⟨R, hR⟩ : ∃ R, R = ex (Ob.mk 5 n f s l d).norm (.mk 5 n f s l d) := ⟨_, rfl⟩
  have HR := Lib.hid hR
  rw [← hR]
  clear hR
  have hnorm : (Ob.mk 5 n f s l d).norm = .mk 5 0 0 ⟨#[]⟩ (normL l) ([]) := by rw [norm_mk]; simp
  unfold objV
  simp only [Ob.k, Ob.n, Ob.f, Ob.s, Ob.l, Ob.d]
  obtain ⟨L, hL⟩ : ∃ L, L = l.length := ⟨_, rfl⟩
  obtain ⟨D, hD⟩ : ∃ D, D = d.length := ⟨_, rfl⟩
  rw [← hL, ← hD]
  rw [← hL] at hb1
  rw [← hD] at hb2
  have HL := Lib.hid hL
  have HD := Lib.hid hD
  clear hL hD
  have B1 := Lib.hid (Blk.fresh w #[.int .i64 5, .int .i64 n, .int .i64 f, .string s, .slice p1 L c1, .slice q1 D e1] 26)
  have K1 := Lib.hid ((Kept.refl w).alloc #[.int .i64 5, .int .i64 n, .int .i64 f, .string s, .slice p1 L c1, .slice q1 D e1] 26)
  obtain ⟨r0, r1, r2, r3, r4, r5⟩ := B1.out.cells6
  by_cases hn : n = 0
  · have hn' : (n != 0) = false := by simpa using hn
    have Hn := Lib.hid hn
    clear hn
    by_cases hf : f = 0
    · have hf' : (f != 0) = false := by simpa using hf
      have Hf := Lib.hid hf
      clear hf
      by_cases hs : s.toList = []
      · have Hs := Lib.hid (toList_nil hs)
        have hs' : (s.toList == []) = true := by rw [hs]; rfl
        clear hs
        by_cases hd : (0 : Int) < (D : Int)
        · have HA := Lib.hid (show R = false by rw [HR.out]; refine ex_no fun e => ?_; rw [hnorm] at e; injection e with _ _ _ _ _ e6; rw [HD.out, ← e6] at hd; exact absurd hd (by decide))
          clear hnorm
          go_enter Tryz.func6, Tryz.ntmps6
          simp only [List.append_eq, List.cons_append, List.nil_append]
          go_wp2_with fail
          all_goals
            go_ret
            exact ⟨ret_bool HA.out.symm, K1.out⟩
        · have Hd0 := Lib.hid (show d = [] from List.eq_nil_of_length_eq_zero (by have := HD.out; omega))
          obtain rfl : D = 0 := by omega
          clear hd
          have HN := Lib.hid (show normL l = l → R = true from fun h5 => by rw [HR.out]; exact ex_yes (by rw [hnorm, h5, (show n = 0 from Hn.out), (show f = 0 from Hf.out), (show s = ⟨#[]⟩ from Hs.out), (show d = [] from Hd0.out)]))
          have HB := Lib.hid (show normL l ≠ l → R = false from fun h5 => by rw [HR.out]; refine ex_no fun e => ?_; rw [hnorm] at e; injection e with _ _ _ _ e5; exact h5 e5)
          clear hnorm
          go_enter Tryz.func6, Tryz.ntmps6
          simp only [List.append_eq, List.cons_append, List.nil_append]
          go_wp2_with fail
          go_loopg [4] (L) (fun m i wr => ∃ (j : Nat), m = L - j ∧ j ≤ L ∧ i = .int .i64 j ∧ Hid (Kept w wr ∧ Blk wr w.heap.size #[.int .i64 5, .int .i64 n, .int .i64 f, .string s, .slice p1 L c1, .slice q1 0 e1] 26) ∧ Hid (∀ i (h : i < j) (h1 : i < l.length), l[i].norm = l[i]))
          case atStart => exact ⟨0, by omega, Nat.zero_le _, rfl, Lib.hid ⟨K1.out, B1.out⟩, Lib.hid (fun i h => absurd h (Nat.not_lt_zero _))⟩
          case round =>
            obtain ⟨j, hm, hj, rfl, HJ, HS⟩ := hrel
            have KJ := Lib.hid HJ.out.1
            have BJ := Lib.hid HJ.out.2
            clear r0 r1 r2 r3 r4 r5
            obtain ⟨r0, r1, r2, r3, r4, r5⟩ := BJ.out.cells6
            by_cases hlt : j < L
            · have hlt2 : j < l.length := by have := HL.out; omega
              obtain ⟨x, b, off, ⟨p', c', q', e'⟩, hxe, hp, -, hbl, hx, y0, y1, y2, y3, y4, y5⟩ := (H1.out.kept KJ.out).elem j (by have := HL.out; exact this ▸ hlt)
              (try simp only [Ob.l] at hxe)
              (try simp only [] at hp y4 y5)
              subst hp
              have HXE := Lib.hid hxe
              have IX0 := HIL.out x (by rw [← hxe]; exact List.getElem_mem _) ⟨p', c', q', e'⟩
              unfold objV at IX0
              simp only [] at IX0
              obtain ⟨X, hX⟩ : ∃ X, X = ex x.norm x := ⟨_, rfl⟩
              rw [← hX] at IX0
              have HX := Lib.hid hX
              have IX := Lib.hid (IX0 _ hx)
              clear IX0 hX hx
              cases X
              · have HA := Lib.hid (show R = false from HB.out fun e => by have h1 := congrArg (fun m : List Ob => m[j]?) e; simp only [normL_map, List.getElem?_map, List.getElem?_eq_getElem hlt2, Option.map_some, HXE.out] at h1; have := HX.out; rw [ex_yes (Option.some.inj h1)] at this; cases this)
                clear hxe
                go_wp2_with fail
                (with_reducible refine IX.out.mono ?_)
                rintro e wn ⟨rfl, kn⟩
                have KN := Lib.hid (KJ.out.trans kn)
                go_wp2_with fail
                go_ret
                exact ⟨ret_bool HA.out.symm, KN.out⟩
              · have HS1 := Lib.hid (show ∀ i (h : i < j + 1) (h1 : i < l.length), l[i].norm = l[i] from fun i h h1 => by
                  by_cases hij : i < j
                  · exact HS.out i hij h1
                  · obtain rfl : i = j := by omega
                    rw [HXE.out]; exact ex_iff.1 HX.out.symm)
                clear hxe
                go_wp2_with fail
                (with_reducible refine IX.out.mono ?_)
                rintro e wn ⟨rfl, kn⟩
                have KN := Lib.hid (KJ.out.trans kn)
                have BN := Lib.hid (BJ.out.kept kn)
                go_wp2_with fail
                go_roundg (L - (j + 1))
                case measure => omega
                case rel => exact ⟨j + 1, rfl, by omega, by go_num, Lib.hid ⟨KN.out, BN.out⟩, HS1⟩
            · have hjN : j = L := by omega
              subst j
              have HA := Lib.hid (show R = true from HN.out (by
                have : normL l = l := by
                  rw [normL_map]
                  refine List.ext_getElem (by simp) fun i h1 h2 => ?_
                  rw [List.getElem_map]
                  exact HS.out i (by have := HL.out; omega) h2
                exact this))
              go_wp2_with fail
              go_loopg [5] 0 (fun m i wr => i = .int .i64 0 ∧ Hid (Kept w wr ∧ Blk wr w.heap.size #[.int .i64 5, .int .i64 n, .int .i64 f, .string s, .slice p1 L c1, .slice q1 0 e1] 26))
              case atStart => exact ⟨rfl, Lib.hid ⟨KJ.out, BJ.out⟩⟩
              case round =>
                obtain ⟨rfl, HI⟩ := hrel
                have KI := Lib.hid HI.out.1
                have BI := Lib.hid HI.out.2
                clear r0 r1 r2 r3 r4 r5
                obtain ⟨r0, r1, r2, r3, r4, r5⟩ := BI.out.cells6
                go_wp2_with fail
                go_ret
                exact ⟨ret_bool HA.out.symm, KI.out⟩
      · have HA := Lib.hid (show R = false by rw [HR.out]; refine ex_no fun e => ?_; rw [hnorm] at e; injection e with _ _ _ e4; rw [← e4] at hs; exact hs nil_toList)
        have hs' : (s.toList == []) = false := by simpa using hs
        clear hnorm hs
        go_enter Tryz.func6, Tryz.ntmps6
        simp only [List.append_eq, List.cons_append, List.nil_append]
        go_wp2_with fail
        all_goals
          go_ret
          exact ⟨ret_bool HA.out.symm, K1.out⟩
    · have hf' : (f != 0) = true := by simpa using hf
      have HA := Lib.hid (show R = false by rw [HR.out]; refine ex_no fun e => ?_; rw [hnorm] at e; injection e with _ _ e3; exact hf e3.symm)
      clear hnorm hf
      go_enter Tryz.func6, Tryz.ntmps6
      simp only [List.append_eq, List.cons_append, List.nil_append]
      go_wp2_with fail
      all_goals
        go_ret
        exact ⟨ret_bool HA.out.symm, K1.out⟩
  · have hn' : (n != 0) = true := by simpa using hn
    have HA := Lib.hid (show R = false by rw [HR.out]; refine ex_no fun e => ?_; rw [hnorm] at e; injection e with _ e2; exact hn e2.symm)
    clear hnorm hn
    go_enter Tryz.func6, Tryz.ntmps6
    simp only [List.append_eq, List.cons_append, List.nil_append]
    go_wp2_with fail
    all_goals
      go_ret
      exact ⟨ret_bool HA.out.symm, K1.out⟩

end Go.Proofs.YthpbipaekmedaaaGreatDoor
