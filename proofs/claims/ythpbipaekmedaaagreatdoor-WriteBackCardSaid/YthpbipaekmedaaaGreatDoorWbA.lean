/-
  What the law's plain answers of an object of kind 1.
  What the law's plain answers of an object of kind 2.
-/
import Derived.Test.YthpbipaekmedaaaGreatDoorWbPl
namespace Go.Proofs.YthpbipaekmedaaaGreatDoor
open Go.RowKit Cx
set_option linter.unusedSimpArgs false
set_option linter.unusedVariables false

set_option maxRecDepth 100000 in
set_option maxHeartbeats 60000000 in
theorem plain_1 (P : Nat → Prop) (n f : Int) (s : ByteArray) (l : List Ob) (d : List Entr) (IHL : ∀ z ∈ l, PlC P z) (IHD : ∀ e ∈ d, PlC P e.2) : PlC P (.mk 1 n f s l d) := by
  intro h w h1
  have H1 := Lib.hid h1
  have HIL := Lib.hid IHL
  have HID := Lib.hid IHD
  have hb := h1.bounds
  obtain ⟨p1, c1, q1, e1⟩ := h
  clear h1 IHL IHD
  obtain ⟨hb1, hb2, _⟩ := hb
  unfold maxLen at hb1 hb2
  simp only [Ob.l, Ob.d] at hb1 hb2
  obtain ⟨R, hR⟩ : ∃ R, R = ex (Ob.mk 1 n f s l d).norm (.mk 1 n f s l d) := ⟨_, rfl⟩
  have HR := Lib.hid hR
  rw [← hR]
  clear hR
  have hnorm : (Ob.mk 1 n f s l d).norm = .mk 1 n 0 ⟨#[]⟩ ([]) ([]) := by rw [norm_mk]; simp
  unfold objV
  simp only [Ob.k, Ob.n, Ob.f, Ob.s, Ob.l, Ob.d]
  obtain ⟨L, hL⟩ : ∃ L, L = l.length := ⟨_, rfl⟩
  obtain ⟨D, hD⟩ : ∃ D, D = d.length := ⟨_, rfl⟩
  rw [← hL, ← hD]
  rw [← hL] at hb1
  rw [← hD] at hb2
  have HL := Lib.hid hL
  have HD := Lib.hid hD
  clear hL hD
  have B1 := Lib.hid (Blk.fresh w #[.int .i64 1, .int .i64 n, .int .i64 f, .string s, .slice p1 L c1, .slice q1 D e1] 26)
  have K1 := Lib.hid ((Kept.refl w).alloc #[.int .i64 1, .int .i64 n, .int .i64 f, .string s, .slice p1 L c1, .slice q1 D e1] 26)
  obtain ⟨r0, r1, r2, r3, r4, r5⟩ := B1.out.cells6
  by_cases hf : f = 0
  · have hf' : (f != 0) = false := by simpa using hf
    have Hf := Lib.hid hf
    clear hf
    by_cases hs : s.toList = []
    · have Hs := Lib.hid (toList_nil hs)
      have hs' : (s.toList == []) = true := by rw [hs]; rfl
      clear hs
      by_cases hl : (0 : Int) < (L : Int)
      · have HA := Lib.hid (show R = false by rw [HR.out]; refine ex_no fun e => ?_; rw [hnorm] at e; injection e with _ _ _ _ e5; rw [HL.out, ← e5] at hl; exact absurd hl (by decide))
        clear hnorm
        go_enter Tryz.func6, Tryz.ntmps6
        simp only [List.append_eq, List.cons_append, List.nil_append]
        go_wp2_with fail
        all_goals
          go_ret
          exact ⟨ret_bool HA.out.symm, K1.out⟩
      · have Hl0 := Lib.hid (show l = [] from List.eq_nil_of_length_eq_zero (by have := HL.out; omega))
        obtain rfl : L = 0 := by omega
        clear hl
        by_cases hd : (0 : Int) < (D : Int)
        · have HA := Lib.hid (show R = false by rw [HR.out]; refine ex_no fun e => ?_; rw [hnorm] at e; injection e with _ _ _ _ _ e6; rw [HD.out, ← e6] at hd; exact absurd hd (by decide))
          clear hnorm
          go_enter Tryz.func6, Tryz.ntmps6
          simp only [List.append_eq, List.cons_append, List.nil_append]
          go_wp2_with fail
          all_goals
            go_ret
            exact ⟨ret_bool HA.out.symm, K1.out⟩
        · have Hd0 := Lib.hid (show d = [] from List.eq_nil_of_length_eq_zero (by have := HD.out; omega))
          obtain rfl : D = 0 := by omega
          clear hd
          have HA := Lib.hid (show R = true by rw [HR.out]; exact ex_yes (by rw [hnorm, (show f = 0 from Hf.out), (show s = ⟨#[]⟩ from Hs.out), (show l = [] from Hl0.out), (show d = [] from Hd0.out)]))
          clear hnorm
          go_enter Tryz.func6, Tryz.ntmps6
          simp only [List.append_eq, List.cons_append, List.nil_append]
          go_wp2_with fail
          go_loopg [4] 0 (fun m i wr => i = .int .i64 0 ∧ Hid (Kept w wr ∧ Blk wr w.heap.size #[.int .i64 1, .int .i64 n, .int .i64 f, .string s, .slice p1 0 c1, .slice q1 0 e1] 26))
          case atStart => exact ⟨rfl, Lib.hid ⟨K1.out, B1.out⟩⟩
          case round =>
            obtain ⟨rfl, HI⟩ := hrel
            have KI := Lib.hid HI.out.1
            have BI := Lib.hid HI.out.2
            clear r0 r1 r2 r3 r4 r5
            obtain ⟨r0, r1, r2, r3, r4, r5⟩ := BI.out.cells6
            go_wp2_with fail
            go_loopg [5] 0 (fun m i wr => i = .int .i64 0 ∧ Hid (Kept w wr ∧ Blk wr w.heap.size #[.int .i64 1, .int .i64 n, .int .i64 f, .string s, .slice p1 0 c1, .slice q1 0 e1] 26))
            case atStart => exact ⟨rfl, Lib.hid ⟨KI.out, BI.out⟩⟩
            case round =>
              obtain ⟨rfl, HI⟩ := hrel
              have KI := Lib.hid HI.out.1
              have BI := Lib.hid HI.out.2
              clear r0 r1 r2 r3 r4 r5
              obtain ⟨r0, r1, r2, r3, r4, r5⟩ := BI.out.cells6
              go_wp2_with fail
              go_ret
              exact ⟨ret_bool HA.out.symm, KI.out⟩
    · have HA := Lib.hid (show R = false by rw [HR.out]; refine ex_no fun e => ?_; rw [hnorm] at e; injection e with _ _ _ e4; rw [← e4] at hs; exact hs nil_toList)
      have hs' : (s.toList == []) = false := by simpa using hs
      clear hnorm hs
      go_enter Tryz.func6, Tryz.ntmps6
      simp only [List.append_eq, List.cons_append, List.nil_append]
      go_wp2_with fail
      all_goals
        go_ret
        exact ⟨ret_bool HA.out.symm, K1.out⟩
  · have hf' : (f != 0) = true := by simpa using hf
    have HA := Lib.hid (show R = false by rw [HR.out]; refine ex_no fun e => ?_; rw [hnorm] at e; injection e with _ _ e3; exact hf e3.symm)
    clear hnorm hf
    go_enter Tryz.func6, Tryz.ntmps6
    simp only [List.append_eq, List.cons_append, List.nil_append]
    go_wp2_with fail
    all_goals
      go_ret
      exact ⟨ret_bool HA.out.symm, K1.out⟩

end Go.Proofs.YthpbipaekmedaaaGreatDoor

namespace Go.Proofs.YthpbipaekmedaaaGreatDoor
open Go.RowKit Cx
set_option linter.unusedSimpArgs false
set_option linter.unusedVariables false

set_option maxRecDepth 100000 in
set_option maxHeartbeats 60000000 in
theorem plain_2 (P : Nat → Prop) (n f : Int) (s : ByteArray) (l : List Ob) (d : List Entr) (IHL : ∀ z ∈ l, PlC P z) (IHD : ∀ e ∈ d, PlC P e.2) : PlC P (.mk 2 n f s l d) := by
  intro h w h1
  have H1 := Lib.hid h1
  have HIL := Lib.hid IHL
  have HID := Lib.hid IHD
  have hb := h1.bounds
  obtain ⟨p1, c1, q1, e1⟩ := h
  clear h1 IHL IHD
  obtain ⟨hb1, hb2, _⟩ := hb
  unfold maxLen at hb1 hb2
  simp only [Ob.l, Ob.d] at hb1 hb2
  obtain ⟨R, hR⟩ : ∃ R, R = ex (Ob.mk 2 n f s l d).norm (.mk 2 n f s l d) := ⟨_, rfl⟩
  have HR := Lib.hid hR
  rw [← hR]
  clear hR
  have hnorm : (Ob.mk 2 n f s l d).norm = .mk 2 n f ⟨#[]⟩ ([]) ([]) := by rw [norm_mk]; simp
  unfold objV
  simp only [Ob.k, Ob.n, Ob.f, Ob.s, Ob.l, Ob.d]
  obtain ⟨L, hL⟩ : ∃ L, L = l.length := ⟨_, rfl⟩
  obtain ⟨D, hD⟩ : ∃ D, D = d.length := ⟨_, rfl⟩
  rw [← hL, ← hD]
  rw [← hL] at hb1
  rw [← hD] at hb2
  have HL := Lib.hid hL
  have HD := Lib.hid hD
  clear hL hD
  have B1 := Lib.hid (Blk.fresh w #[.int .i64 2, .int .i64 n, .int .i64 f, .string s, .slice p1 L c1, .slice q1 D e1] 26)
  have K1 := Lib.hid ((Kept.refl w).alloc #[.int .i64 2, .int .i64 n, .int .i64 f, .string s, .slice p1 L c1, .slice q1 D e1] 26)
  obtain ⟨r0, r1, r2, r3, r4, r5⟩ := B1.out.cells6
  by_cases hs : s.toList = []
  · have Hs := Lib.hid (toList_nil hs)
    have hs' : (s.toList == []) = true := by rw [hs]; rfl
    clear hs
    by_cases hl : (0 : Int) < (L : Int)
    · have HA := Lib.hid (show R = false by rw [HR.out]; refine ex_no fun e => ?_; rw [hnorm] at e; injection e with _ _ _ _ e5; rw [HL.out, ← e5] at hl; exact absurd hl (by decide))
      clear hnorm
      go_enter Tryz.func6, Tryz.ntmps6
      simp only [List.append_eq, List.cons_append, List.nil_append]
      go_wp2_with fail
      all_goals
        go_ret
        exact ⟨ret_bool HA.out.symm, K1.out⟩
    · have Hl0 := Lib.hid (show l = [] from List.eq_nil_of_length_eq_zero (by have := HL.out; omega))
      obtain rfl : L = 0 := by omega
      clear hl
      by_cases hd : (0 : Int) < (D : Int)
      · have HA := Lib.hid (show R = false by rw [HR.out]; refine ex_no fun e => ?_; rw [hnorm] at e; injection e with _ _ _ _ _ e6; rw [HD.out, ← e6] at hd; exact absurd hd (by decide))
        clear hnorm
        go_enter Tryz.func6, Tryz.ntmps6
        simp only [List.append_eq, List.cons_append, List.nil_append]
        go_wp2_with fail
        all_goals
          go_ret
          exact ⟨ret_bool HA.out.symm, K1.out⟩
      · have Hd0 := Lib.hid (show d = [] from List.eq_nil_of_length_eq_zero (by have := HD.out; omega))
        obtain rfl : D = 0 := by omega
        clear hd
        have HA := Lib.hid (show R = true by rw [HR.out]; exact ex_yes (by rw [hnorm, (show s = ⟨#[]⟩ from Hs.out), (show l = [] from Hl0.out), (show d = [] from Hd0.out)]))
        clear hnorm
        go_enter Tryz.func6, Tryz.ntmps6
        simp only [List.append_eq, List.cons_append, List.nil_append]
        go_wp2_with fail
        go_loopg [4] 0 (fun m i wr => i = .int .i64 0 ∧ Hid (Kept w wr ∧ Blk wr w.heap.size #[.int .i64 2, .int .i64 n, .int .i64 f, .string s, .slice p1 0 c1, .slice q1 0 e1] 26))
        case atStart => exact ⟨rfl, Lib.hid ⟨K1.out, B1.out⟩⟩
        case round =>
          obtain ⟨rfl, HI⟩ := hrel
          have KI := Lib.hid HI.out.1
          have BI := Lib.hid HI.out.2
          clear r0 r1 r2 r3 r4 r5
          obtain ⟨r0, r1, r2, r3, r4, r5⟩ := BI.out.cells6
          go_wp2_with fail
          go_loopg [5] 0 (fun m i wr => i = .int .i64 0 ∧ Hid (Kept w wr ∧ Blk wr w.heap.size #[.int .i64 2, .int .i64 n, .int .i64 f, .string s, .slice p1 0 c1, .slice q1 0 e1] 26))
          case atStart => exact ⟨rfl, Lib.hid ⟨KI.out, BI.out⟩⟩
          case round =>
            obtain ⟨rfl, HI⟩ := hrel
            have KI := Lib.hid HI.out.1
            have BI := Lib.hid HI.out.2
            clear r0 r1 r2 r3 r4 r5
            obtain ⟨r0, r1, r2, r3, r4, r5⟩ := BI.out.cells6
            go_wp2_with fail
            go_ret
            exact ⟨ret_bool HA.out.symm, KI.out⟩
  · have HA := Lib.hid (show R = false by rw [HR.out]; refine ex_no fun e => ?_; rw [hnorm] at e; injection e with _ _ _ e4; rw [← e4] at hs; exact hs nil_toList)
    have hs' : (s.toList == []) = false := by simpa using hs
    clear hnorm hs
    go_enter Tryz.func6, Tryz.ntmps6
    simp only [List.append_eq, List.cons_append, List.nil_append]
    go_wp2_with fail
    all_goals
      go_ret
      exact ⟨ret_bool HA.out.symm, K1.out⟩

end Go.Proofs.YthpbipaekmedaaaGreatDoor
