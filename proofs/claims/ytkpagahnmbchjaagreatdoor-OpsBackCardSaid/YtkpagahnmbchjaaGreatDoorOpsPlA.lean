/-
  Whether an object bears its own kind's fields alone: what the law's plain answers.
  What the law's plain answers of an object of kind none of the eight.
  What the law's plain answers of an object of kind 1.
  What the law's plain answers of an object of kind 2.
  What the law's plain answers of an object of kind 3.
  What the law's plain answers of an object of kind 4.
  What the law's plain answers of an object of kind 5.
  What the law's plain answers of an object of kind 6.
  What the law's plain answers of any object.
-/
import Derived.Test.YtkpagahnmbchjaaGreatDoorWbMath
import Derived.Test.YtkpagahnmbchjaaGreatDoorCosExact
import Derived.BigGuard
namespace Go.Proofs.YtkpagahnmbchjaaGreatDoor
open Go.RowKit Cx
set_option linter.unusedSimpArgs false
set_option linter.unusedVariables false

theorem nil_toListP : (⟨#[]⟩ : ByteArray).toList = [] := by first | rfl | decide | simp
theorem toList_nilP {s : ByteArray} (h : s.toList = []) : s = ⟨#[]⟩ := by
  apply keq_iff.1
  unfold keq
  rw [h, nil_toListP]; rfl
/-- What plain says of an object. -/
def PlPost (w : World) (x : Ob) (e : Ending) (w' : World) : Prop := ∃ b : Bool, e = .returned (.bool b) ∧ Kept w w' ∧ (b = true → x.norm = x)
theorem PlPost.no {w w' : World} {x : Ob} (k : Kept w w') : PlPost w x (.returned (.bool false)) w' := ⟨false, rfl, k, fun h => by cases h⟩
theorem PlPost.yes {w w' : World} {x : Ob} (h : x.norm = x) (k : Kept w w') : PlPost w x (.returned (.bool true)) w' := ⟨true, rfl, k, fun _ => h⟩
def PlP (P : Nat → Prop) (x : Ob) : Prop :=
  ∀ (h : Hd) (w : World), Lies (Cel P w) x h → Calls Tryz.prog 9 #[objV x h] w fun e w' => PlPost w x e w'

end Go.Proofs.YtkpagahnmbchjaaGreatDoor

namespace Go.Proofs.YtkpagahnmbchjaaGreatDoor
open Go.RowKit Cx
set_option linter.unusedSimpArgs false
set_option linter.unusedVariables false

set_option maxRecDepth 100000 in
set_option maxHeartbeats 60000000 in
theorem plainp_x (P : Nat → Prop) (k n f : Int) (s : ByteArray) (l : List Ob) (d : List Entr) (hk : k ≠ 1 ∧ k ≠ 2 ∧ k ≠ 3 ∧ k ≠ 4 ∧ k ≠ 5 ∧ k ≠ 6) (IHL : ∀ z ∈ l, PlP P z) (IHD : ∀ e ∈ d, PlP P e.2) : PlP P (.mk k n f s l d) := by
  intro h w h1
  have H1 := Lib.hid h1
  have HIL := Lib.hid IHL
  have HID := Lib.hid IHD
  have hb := h1.bounds
  obtain ⟨p1, c1, q1, e1⟩ := h
  clear h1 IHL IHD
  obtain ⟨hb1, hb2, _⟩ := hb
  unfold maxLen at hb1 hb2
  simp only [Ob.l, Ob.d] at hb1 hb2
  obtain ⟨k1, k2, k3, k4, k5, k6⟩ := hk
  have h1 : (k != 1) = true := by simpa using k1
  have h2 : (k != 2) = true := by simpa using k2
  have h3 : (k != 3) = true := by simpa using k3
  have h4 : (k != 4) = true := by simpa using k4
  have h5 : (k != 5) = true := by simpa using k5
  have h6 : (k != 6) = true := by simpa using k6
  clear k1 k2 k3 k4 k5 k6
  unfold objV
  simp only [Ob.k, Ob.n, Ob.f, Ob.s, Ob.l, Ob.d]
  obtain ⟨L, hL⟩ : ∃ L, L = l.length := ⟨_, rfl⟩
  obtain ⟨D, hD⟩ : ∃ D, D = d.length := ⟨_, rfl⟩
  rw [← hL, ← hD]
  rw [← hL] at hb1
  rw [← hD] at hb2
  have HL := Lib.hid hL
  have HD := Lib.hid hD
  clear hL hD
  have B1 := Lib.hid (Blk.fresh w #[.int .i64 k, .int .i64 n, .int .i64 f, .string s, .slice p1 L c1, .slice q1 D e1] 32)
  have K1 := Lib.hid ((Kept.refl w).alloc #[.int .i64 k, .int .i64 n, .int .i64 f, .string s, .slice p1 L c1, .slice q1 D e1] 32)
  obtain ⟨r0, r1, r2, r3, r4, r5⟩ := B1.out.cells6
  by_cases hn : n = 0
  · have hn' : (n != 0) = false := by simpa using hn
    have Hn := Lib.hid hn
    clear hn
    by_cases hf : f = 0
    · have hf' : (f != 0) = false := by simpa using hf
      have Hf := Lib.hid hf
      clear hf
      by_cases hs : s.toList = []
      · have Hs := Lib.hid (toList_nilP hs)
        have hs' : (s.toList == []) = true := by rw [hs]; rfl
        clear hs
        by_cases hl : (0 : Int) < (L : Int)
        · skip
          go_enter Tryz.func9, Tryz.ntmps9
          (try simp only [List.append_eq, List.cons_append, List.nil_append])
          go_wp2_with fail
          all_goals
            go_ret
            exact PlPost.no K1.out
        · have Hl0 := Lib.hid (show l = [] from List.eq_nil_of_length_eq_zero (by have := HL.out; omega))
          obtain rfl : L = 0 := by omega
          clear hl
          by_cases hd : (0 : Int) < (D : Int)
          · skip
            go_enter Tryz.func9, Tryz.ntmps9
            (try simp only [List.append_eq, List.cons_append, List.nil_append])
            go_wp2_with fail
            all_goals
              go_ret
              exact PlPost.no K1.out
          · have Hd0 := Lib.hid (show d = [] from List.eq_nil_of_length_eq_zero (by have := HD.out; omega))
            obtain rfl : D = 0 := by omega
            clear hd
            have HA := Lib.hid (show (Ob.mk k n f s l d).norm = Ob.mk k n f s l d from by rw [norm_mk]; simp [normL_map, normD_map, (show n = 0 from Hn.out), (show f = 0 from Hf.out), (show s = ⟨#[]⟩ from Hs.out), (show l = [] from Hl0.out), (show d = [] from Hd0.out)])
            go_enter Tryz.func9, Tryz.ntmps9
            (try simp only [List.append_eq, List.cons_append, List.nil_append])
            go_wp2_with fail
            go_loopg [4] 0 (fun m i wr => i = .int .i64 0 ∧ Hid (Kept w wr ∧ Blk wr w.heap.size #[.int .i64 k, .int .i64 n, .int .i64 f, .string s, .slice p1 0 c1, .slice q1 0 e1] 32))
            case atStart => exact ⟨rfl, Lib.hid ⟨K1.out, B1.out⟩⟩
            case round =>
              obtain ⟨rfl, HI⟩ := hrel
              have KI := Lib.hid HI.out.1
              have BI := Lib.hid HI.out.2
              clear r0 r1 r2 r3 r4 r5
              obtain ⟨r0, r1, r2, r3, r4, r5⟩ := BI.out.cells6
              go_wp2_with fail
              go_loopg [5] 0 (fun m i wr => i = .int .i64 0 ∧ Hid (Kept w wr ∧ Blk wr w.heap.size #[.int .i64 k, .int .i64 n, .int .i64 f, .string s, .slice p1 0 c1, .slice q1 0 e1] 32))
              case atStart => exact ⟨rfl, Lib.hid ⟨KI.out, BI.out⟩⟩
              case round =>
                obtain ⟨rfl, HI⟩ := hrel
                have KI := Lib.hid HI.out.1
                have BI := Lib.hid HI.out.2
                clear r0 r1 r2 r3 r4 r5
                obtain ⟨r0, r1, r2, r3, r4, r5⟩ := BI.out.cells6
                go_wp2_with fail
                go_ret
                exact PlPost.yes HA.out KI.out
      · have hs' : (s.toList == []) = false := by simpa using hs
        clear hs
        go_enter Tryz.func9, Tryz.ntmps9
        (try simp only [List.append_eq, List.cons_append, List.nil_append])
        go_wp2_with fail
        all_goals
          go_ret
          exact PlPost.no K1.out
    · have hf' : (f != 0) = true := by simpa using hf
      clear hf
      go_enter Tryz.func9, Tryz.ntmps9
      (try simp only [List.append_eq, List.cons_append, List.nil_append])
      go_wp2_with fail
      all_goals
        go_ret
        exact PlPost.no K1.out
  · have hn' : (n != 0) = true := by simpa using hn
    clear hn
    go_enter Tryz.func9, Tryz.ntmps9
    (try simp only [List.append_eq, List.cons_append, List.nil_append])
    go_wp2_with fail
    all_goals
      go_ret
      exact PlPost.no K1.out

end Go.Proofs.YtkpagahnmbchjaaGreatDoor

namespace Go.Proofs.YtkpagahnmbchjaaGreatDoor
open Go.RowKit Cx
set_option linter.unusedSimpArgs false
set_option linter.unusedVariables false

set_option maxRecDepth 100000 in
set_option maxHeartbeats 60000000 in
theorem plainp_1 (P : Nat → Prop) (n f : Int) (s : ByteArray) (l : List Ob) (d : List Entr) (IHL : ∀ z ∈ l, PlP P z) (IHD : ∀ e ∈ d, PlP P e.2) : PlP P (.mk 1 n f s l d) := by
  intro h w h1
  have H1 := Lib.hid h1
  have HIL := Lib.hid IHL
  have HID := Lib.hid IHD
  have hb := h1.bounds
  obtain ⟨p1, c1, q1, e1⟩ := h
  clear h1 IHL IHD
  obtain ⟨hb1, hb2, _⟩ := hb
  unfold maxLen at hb1 hb2
  simp only [Ob.l, Ob.d] at hb1 hb2
  unfold objV
  simp only [Ob.k, Ob.n, Ob.f, Ob.s, Ob.l, Ob.d]
  obtain ⟨L, hL⟩ : ∃ L, L = l.length := ⟨_, rfl⟩
  obtain ⟨D, hD⟩ : ∃ D, D = d.length := ⟨_, rfl⟩
  rw [← hL, ← hD]
  rw [← hL] at hb1
  rw [← hD] at hb2
  have HL := Lib.hid hL
  have HD := Lib.hid hD
  clear hL hD
  have B1 := Lib.hid (Blk.fresh w #[.int .i64 1, .int .i64 n, .int .i64 f, .string s, .slice p1 L c1, .slice q1 D e1] 32)
  have K1 := Lib.hid ((Kept.refl w).alloc #[.int .i64 1, .int .i64 n, .int .i64 f, .string s, .slice p1 L c1, .slice q1 D e1] 32)
  obtain ⟨r0, r1, r2, r3, r4, r5⟩ := B1.out.cells6
  by_cases hf : f = 0
  · have hf' : (f != 0) = false := by simpa using hf
    have Hf := Lib.hid hf
    clear hf
    by_cases hs : s.toList = []
    · have Hs := Lib.hid (toList_nilP hs)
      have hs' : (s.toList == []) = true := by rw [hs]; rfl
      clear hs
      by_cases hl : (0 : Int) < (L : Int)
      · skip
        go_enter Tryz.func9, Tryz.ntmps9
        (try simp only [List.append_eq, List.cons_append, List.nil_append])
        go_wp2_with fail
        all_goals
          go_ret
          exact PlPost.no K1.out
      · have Hl0 := Lib.hid (show l = [] from List.eq_nil_of_length_eq_zero (by have := HL.out; omega))
        obtain rfl : L = 0 := by omega
        clear hl
        by_cases hd : (0 : Int) < (D : Int)
        · skip
          go_enter Tryz.func9, Tryz.ntmps9
          (try simp only [List.append_eq, List.cons_append, List.nil_append])
          go_wp2_with fail
          all_goals
            go_ret
            exact PlPost.no K1.out
        · have Hd0 := Lib.hid (show d = [] from List.eq_nil_of_length_eq_zero (by have := HD.out; omega))
          obtain rfl : D = 0 := by omega
          clear hd
          have HA := Lib.hid (show (Ob.mk 1 n f s l d).norm = Ob.mk 1 n f s l d from by rw [norm_mk]; simp [normL_map, normD_map, (show f = 0 from Hf.out), (show s = ⟨#[]⟩ from Hs.out), (show l = [] from Hl0.out), (show d = [] from Hd0.out)])
          go_enter Tryz.func9, Tryz.ntmps9
          (try simp only [List.append_eq, List.cons_append, List.nil_append])
          go_wp2_with fail
          go_loopg [4] 0 (fun m i wr => i = .int .i64 0 ∧ Hid (Kept w wr ∧ Blk wr w.heap.size #[.int .i64 1, .int .i64 n, .int .i64 f, .string s, .slice p1 0 c1, .slice q1 0 e1] 32))
          case atStart => exact ⟨rfl, Lib.hid ⟨K1.out, B1.out⟩⟩
          case round =>
            obtain ⟨rfl, HI⟩ := hrel
            have KI := Lib.hid HI.out.1
            have BI := Lib.hid HI.out.2
            clear r0 r1 r2 r3 r4 r5
            obtain ⟨r0, r1, r2, r3, r4, r5⟩ := BI.out.cells6
            go_wp2_with fail
            go_loopg [5] 0 (fun m i wr => i = .int .i64 0 ∧ Hid (Kept w wr ∧ Blk wr w.heap.size #[.int .i64 1, .int .i64 n, .int .i64 f, .string s, .slice p1 0 c1, .slice q1 0 e1] 32))
            case atStart => exact ⟨rfl, Lib.hid ⟨KI.out, BI.out⟩⟩
            case round =>
              obtain ⟨rfl, HI⟩ := hrel
              have KI := Lib.hid HI.out.1
              have BI := Lib.hid HI.out.2
              clear r0 r1 r2 r3 r4 r5
              obtain ⟨r0, r1, r2, r3, r4, r5⟩ := BI.out.cells6
              go_wp2_with fail
              go_ret
              exact PlPost.yes HA.out KI.out
    · have hs' : (s.toList == []) = false := by simpa using hs
      clear hs
      go_enter Tryz.func9, Tryz.ntmps9
      (try simp only [List.append_eq, List.cons_append, List.nil_append])
      go_wp2_with fail
      all_goals
        go_ret
        exact PlPost.no K1.out
  · have hf' : (f != 0) = true := by simpa using hf
    clear hf
    go_enter Tryz.func9, Tryz.ntmps9
    (try simp only [List.append_eq, List.cons_append, List.nil_append])
    go_wp2_with fail
    all_goals
      go_ret
      exact PlPost.no K1.out

end Go.Proofs.YtkpagahnmbchjaaGreatDoor

namespace Go.Proofs.YtkpagahnmbchjaaGreatDoor
open Go.RowKit Cx
set_option linter.unusedSimpArgs false
set_option linter.unusedVariables false

set_option maxRecDepth 100000 in
set_option maxHeartbeats 60000000 in
theorem plainp_2 (P : Nat → Prop) (n f : Int) (s : ByteArray) (l : List Ob) (d : List Entr) (IHL : ∀ z ∈ l, PlP P z) (IHD : ∀ e ∈ d, PlP P e.2) : PlP P (.mk 2 n f s l d) := by
  intro h w h1
  have H1 := Lib.hid h1
  have HIL := Lib.hid IHL
  have HID := Lib.hid IHD
  have hb := h1.bounds
  obtain ⟨p1, c1, q1, e1⟩ := h
  clear h1 IHL IHD
  obtain ⟨hb1, hb2, _⟩ := hb
  unfold maxLen at hb1 hb2
  simp only [Ob.l, Ob.d] at hb1 hb2
  unfold objV
  simp only [Ob.k, Ob.n, Ob.f, Ob.s, Ob.l, Ob.d]
  obtain ⟨L, hL⟩ : ∃ L, L = l.length := ⟨_, rfl⟩
  obtain ⟨D, hD⟩ : ∃ D, D = d.length := ⟨_, rfl⟩
  rw [← hL, ← hD]
  rw [← hL] at hb1
  rw [← hD] at hb2
  have HL := Lib.hid hL
  have HD := Lib.hid hD
  clear hL hD
  have B1 := Lib.hid (Blk.fresh w #[.int .i64 2, .int .i64 n, .int .i64 f, .string s, .slice p1 L c1, .slice q1 D e1] 32)
  have K1 := Lib.hid ((Kept.refl w).alloc #[.int .i64 2, .int .i64 n, .int .i64 f, .string s, .slice p1 L c1, .slice q1 D e1] 32)
  obtain ⟨r0, r1, r2, r3, r4, r5⟩ := B1.out.cells6
  by_cases hs : s.toList = []
  · have Hs := Lib.hid (toList_nilP hs)
    have hs' : (s.toList == []) = true := by rw [hs]; rfl
    clear hs
    by_cases hl : (0 : Int) < (L : Int)
    · skip
      go_enter Tryz.func9, Tryz.ntmps9
      (try simp only [List.append_eq, List.cons_append, List.nil_append])
      go_wp2_with fail
      all_goals
        go_ret
        exact PlPost.no K1.out
    · have Hl0 := Lib.hid (show l = [] from List.eq_nil_of_length_eq_zero (by have := HL.out; omega))
      obtain rfl : L = 0 := by omega
      clear hl
      by_cases hd : (0 : Int) < (D : Int)
      · skip
        go_enter Tryz.func9, Tryz.ntmps9
        (try simp only [List.append_eq, List.cons_append, List.nil_append])
        go_wp2_with fail
        all_goals
          go_ret
          exact PlPost.no K1.out
      · have Hd0 := Lib.hid (show d = [] from List.eq_nil_of_length_eq_zero (by have := HD.out; omega))
        obtain rfl : D = 0 := by omega
        clear hd
        have HA := Lib.hid (show (Ob.mk 2 n f s l d).norm = Ob.mk 2 n f s l d from by rw [norm_mk]; simp [normL_map, normD_map, (show s = ⟨#[]⟩ from Hs.out), (show l = [] from Hl0.out), (show d = [] from Hd0.out)])
        go_enter Tryz.func9, Tryz.ntmps9
        (try simp only [List.append_eq, List.cons_append, List.nil_append])
        go_wp2_with fail
        go_loopg [4] 0 (fun m i wr => i = .int .i64 0 ∧ Hid (Kept w wr ∧ Blk wr w.heap.size #[.int .i64 2, .int .i64 n, .int .i64 f, .string s, .slice p1 0 c1, .slice q1 0 e1] 32))
        case atStart => exact ⟨rfl, Lib.hid ⟨K1.out, B1.out⟩⟩
        case round =>
          obtain ⟨rfl, HI⟩ := hrel
          have KI := Lib.hid HI.out.1
          have BI := Lib.hid HI.out.2
          clear r0 r1 r2 r3 r4 r5
          obtain ⟨r0, r1, r2, r3, r4, r5⟩ := BI.out.cells6
          go_wp2_with fail
          go_loopg [5] 0 (fun m i wr => i = .int .i64 0 ∧ Hid (Kept w wr ∧ Blk wr w.heap.size #[.int .i64 2, .int .i64 n, .int .i64 f, .string s, .slice p1 0 c1, .slice q1 0 e1] 32))
          case atStart => exact ⟨rfl, Lib.hid ⟨KI.out, BI.out⟩⟩
          case round =>
            obtain ⟨rfl, HI⟩ := hrel
            have KI := Lib.hid HI.out.1
            have BI := Lib.hid HI.out.2
            clear r0 r1 r2 r3 r4 r5
            obtain ⟨r0, r1, r2, r3, r4, r5⟩ := BI.out.cells6
            go_wp2_with fail
            go_ret
            exact PlPost.yes HA.out KI.out
  · have hs' : (s.toList == []) = false := by simpa using hs
    clear hs
    go_enter Tryz.func9, Tryz.ntmps9
    (try simp only [List.append_eq, List.cons_append, List.nil_append])
    go_wp2_with fail
    all_goals
      go_ret
      exact PlPost.no K1.out

end Go.Proofs.YtkpagahnmbchjaaGreatDoor

namespace Go.Proofs.YtkpagahnmbchjaaGreatDoor
open Go.RowKit Cx
set_option linter.unusedSimpArgs false
set_option linter.unusedVariables false

set_option maxRecDepth 100000 in
set_option maxHeartbeats 60000000 in
theorem plainp_3 (P : Nat → Prop) (n f : Int) (s : ByteArray) (l : List Ob) (d : List Entr) (IHL : ∀ z ∈ l, PlP P z) (IHD : ∀ e ∈ d, PlP P e.2) : PlP P (.mk 3 n f s l d) := by
  intro h w h1
  have H1 := Lib.hid h1
  have HIL := Lib.hid IHL
  have HID := Lib.hid IHD
  have hb := h1.bounds
  obtain ⟨p1, c1, q1, e1⟩ := h
  clear h1 IHL IHD
  obtain ⟨hb1, hb2, _⟩ := hb
  unfold maxLen at hb1 hb2
  simp only [Ob.l, Ob.d] at hb1 hb2
  unfold objV
  simp only [Ob.k, Ob.n, Ob.f, Ob.s, Ob.l, Ob.d]
  obtain ⟨L, hL⟩ : ∃ L, L = l.length := ⟨_, rfl⟩
  obtain ⟨D, hD⟩ : ∃ D, D = d.length := ⟨_, rfl⟩
  rw [← hL, ← hD]
  rw [← hL] at hb1
  rw [← hD] at hb2
  have HL := Lib.hid hL
  have HD := Lib.hid hD
  clear hL hD
  have B1 := Lib.hid (Blk.fresh w #[.int .i64 3, .int .i64 n, .int .i64 f, .string s, .slice p1 L c1, .slice q1 D e1] 32)
  have K1 := Lib.hid ((Kept.refl w).alloc #[.int .i64 3, .int .i64 n, .int .i64 f, .string s, .slice p1 L c1, .slice q1 D e1] 32)
  obtain ⟨r0, r1, r2, r3, r4, r5⟩ := B1.out.cells6
  by_cases hn : n = 0
  · have hn' : (n != 0) = false := by simpa using hn
    have Hn := Lib.hid hn
    clear hn
    by_cases hf : f = 0
    · have hf' : (f != 0) = false := by simpa using hf
      have Hf := Lib.hid hf
      clear hf
      by_cases hl : (0 : Int) < (L : Int)
      · skip
        go_enter Tryz.func9, Tryz.ntmps9
        (try simp only [List.append_eq, List.cons_append, List.nil_append])
        go_wp2_with fail
        all_goals
          go_ret
          exact PlPost.no K1.out
      · have Hl0 := Lib.hid (show l = [] from List.eq_nil_of_length_eq_zero (by have := HL.out; omega))
        obtain rfl : L = 0 := by omega
        clear hl
        by_cases hd : (0 : Int) < (D : Int)
        · skip
          go_enter Tryz.func9, Tryz.ntmps9
          (try simp only [List.append_eq, List.cons_append, List.nil_append])
          go_wp2_with fail
          all_goals
            go_ret
            exact PlPost.no K1.out
        · have Hd0 := Lib.hid (show d = [] from List.eq_nil_of_length_eq_zero (by have := HD.out; omega))
          obtain rfl : D = 0 := by omega
          clear hd
          have HA := Lib.hid (show (Ob.mk 3 n f s l d).norm = Ob.mk 3 n f s l d from by rw [norm_mk]; simp [normL_map, normD_map, (show n = 0 from Hn.out), (show f = 0 from Hf.out), (show l = [] from Hl0.out), (show d = [] from Hd0.out)])
          go_enter Tryz.func9, Tryz.ntmps9
          (try simp only [List.append_eq, List.cons_append, List.nil_append])
          go_wp2_with fail
          go_loopg [4] 0 (fun m i wr => i = .int .i64 0 ∧ Hid (Kept w wr ∧ Blk wr w.heap.size #[.int .i64 3, .int .i64 n, .int .i64 f, .string s, .slice p1 0 c1, .slice q1 0 e1] 32))
          case atStart => exact ⟨rfl, Lib.hid ⟨K1.out, B1.out⟩⟩
          case round =>
            obtain ⟨rfl, HI⟩ := hrel
            have KI := Lib.hid HI.out.1
            have BI := Lib.hid HI.out.2
            clear r0 r1 r2 r3 r4 r5
            obtain ⟨r0, r1, r2, r3, r4, r5⟩ := BI.out.cells6
            go_wp2_with fail
            go_loopg [5] 0 (fun m i wr => i = .int .i64 0 ∧ Hid (Kept w wr ∧ Blk wr w.heap.size #[.int .i64 3, .int .i64 n, .int .i64 f, .string s, .slice p1 0 c1, .slice q1 0 e1] 32))
            case atStart => exact ⟨rfl, Lib.hid ⟨KI.out, BI.out⟩⟩
            case round =>
              obtain ⟨rfl, HI⟩ := hrel
              have KI := Lib.hid HI.out.1
              have BI := Lib.hid HI.out.2
              clear r0 r1 r2 r3 r4 r5
              obtain ⟨r0, r1, r2, r3, r4, r5⟩ := BI.out.cells6
              go_wp2_with fail
              go_ret
              exact PlPost.yes HA.out KI.out
    · have hf' : (f != 0) = true := by simpa using hf
      clear hf
      go_enter Tryz.func9, Tryz.ntmps9
      (try simp only [List.append_eq, List.cons_append, List.nil_append])
      go_wp2_with fail
      all_goals
        go_ret
        exact PlPost.no K1.out
  · have hn' : (n != 0) = true := by simpa using hn
    clear hn
    go_enter Tryz.func9, Tryz.ntmps9
    (try simp only [List.append_eq, List.cons_append, List.nil_append])
    go_wp2_with fail
    all_goals
      go_ret
      exact PlPost.no K1.out

end Go.Proofs.YtkpagahnmbchjaaGreatDoor

namespace Go.Proofs.YtkpagahnmbchjaaGreatDoor
open Go.RowKit Cx
set_option linter.unusedSimpArgs false
set_option linter.unusedVariables false

set_option maxRecDepth 100000 in
set_option maxHeartbeats 60000000 in
theorem plainp_4 (P : Nat → Prop) (n f : Int) (s : ByteArray) (l : List Ob) (d : List Entr) (IHL : ∀ z ∈ l, PlP P z) (IHD : ∀ e ∈ d, PlP P e.2) : PlP P (.mk 4 n f s l d) := by
  intro h w h1
  have H1 := Lib.hid h1
  have HIL := Lib.hid IHL
  have HID := Lib.hid IHD
  have hb := h1.bounds
  obtain ⟨p1, c1, q1, e1⟩ := h
  clear h1 IHL IHD
  obtain ⟨hb1, hb2, _⟩ := hb
  unfold maxLen at hb1 hb2
  simp only [Ob.l, Ob.d] at hb1 hb2
  unfold objV
  simp only [Ob.k, Ob.n, Ob.f, Ob.s, Ob.l, Ob.d]
  obtain ⟨L, hL⟩ : ∃ L, L = l.length := ⟨_, rfl⟩
  obtain ⟨D, hD⟩ : ∃ D, D = d.length := ⟨_, rfl⟩
  rw [← hL, ← hD]
  rw [← hL] at hb1
  rw [← hD] at hb2
  have HL := Lib.hid hL
  have HD := Lib.hid hD
  clear hL hD
  have B1 := Lib.hid (Blk.fresh w #[.int .i64 4, .int .i64 n, .int .i64 f, .string s, .slice p1 L c1, .slice q1 D e1] 32)
  have K1 := Lib.hid ((Kept.refl w).alloc #[.int .i64 4, .int .i64 n, .int .i64 f, .string s, .slice p1 L c1, .slice q1 D e1] 32)
  obtain ⟨r0, r1, r2, r3, r4, r5⟩ := B1.out.cells6
  by_cases hn : n = 0
  · have hn' : (n != 0) = false := by simpa using hn
    have Hn := Lib.hid hn
    clear hn
    by_cases hf : f = 0
    · have hf' : (f != 0) = false := by simpa using hf
      have Hf := Lib.hid hf
      clear hf
      by_cases hl : (0 : Int) < (L : Int)
      · skip
        go_enter Tryz.func9, Tryz.ntmps9
        (try simp only [List.append_eq, List.cons_append, List.nil_append])
        go_wp2_with fail
        all_goals
          go_ret
          exact PlPost.no K1.out
      · have Hl0 := Lib.hid (show l = [] from List.eq_nil_of_length_eq_zero (by have := HL.out; omega))
        obtain rfl : L = 0 := by omega
        clear hl
        by_cases hd : (0 : Int) < (D : Int)
        · skip
          go_enter Tryz.func9, Tryz.ntmps9
          (try simp only [List.append_eq, List.cons_append, List.nil_append])
          go_wp2_with fail
          all_goals
            go_ret
            exact PlPost.no K1.out
        · have Hd0 := Lib.hid (show d = [] from List.eq_nil_of_length_eq_zero (by have := HD.out; omega))
          obtain rfl : D = 0 := by omega
          clear hd
          have HA := Lib.hid (show (Ob.mk 4 n f s l d).norm = Ob.mk 4 n f s l d from by rw [norm_mk]; simp [normL_map, normD_map, (show n = 0 from Hn.out), (show f = 0 from Hf.out), (show l = [] from Hl0.out), (show d = [] from Hd0.out)])
          go_enter Tryz.func9, Tryz.ntmps9
          (try simp only [List.append_eq, List.cons_append, List.nil_append])
          go_wp2_with fail
          go_loopg [4] 0 (fun m i wr => i = .int .i64 0 ∧ Hid (Kept w wr ∧ Blk wr w.heap.size #[.int .i64 4, .int .i64 n, .int .i64 f, .string s, .slice p1 0 c1, .slice q1 0 e1] 32))
          case atStart => exact ⟨rfl, Lib.hid ⟨K1.out, B1.out⟩⟩
          case round =>
            obtain ⟨rfl, HI⟩ := hrel
            have KI := Lib.hid HI.out.1
            have BI := Lib.hid HI.out.2
            clear r0 r1 r2 r3 r4 r5
            obtain ⟨r0, r1, r2, r3, r4, r5⟩ := BI.out.cells6
            go_wp2_with fail
            go_loopg [5] 0 (fun m i wr => i = .int .i64 0 ∧ Hid (Kept w wr ∧ Blk wr w.heap.size #[.int .i64 4, .int .i64 n, .int .i64 f, .string s, .slice p1 0 c1, .slice q1 0 e1] 32))
            case atStart => exact ⟨rfl, Lib.hid ⟨KI.out, BI.out⟩⟩
            case round =>
              obtain ⟨rfl, HI⟩ := hrel
              have KI := Lib.hid HI.out.1
              have BI := Lib.hid HI.out.2
              clear r0 r1 r2 r3 r4 r5
              obtain ⟨r0, r1, r2, r3, r4, r5⟩ := BI.out.cells6
              go_wp2_with fail
              go_ret
              exact PlPost.yes HA.out KI.out
    · have hf' : (f != 0) = true := by simpa using hf
      clear hf
      go_enter Tryz.func9, Tryz.ntmps9
      (try simp only [List.append_eq, List.cons_append, List.nil_append])
      go_wp2_with fail
      all_goals
        go_ret
        exact PlPost.no K1.out
  · have hn' : (n != 0) = true := by simpa using hn
    clear hn
    go_enter Tryz.func9, Tryz.ntmps9
    (try simp only [List.append_eq, List.cons_append, List.nil_append])
    go_wp2_with fail
    all_goals
      go_ret
      exact PlPost.no K1.out

end Go.Proofs.YtkpagahnmbchjaaGreatDoor

namespace Go.Proofs.YtkpagahnmbchjaaGreatDoor
open Go.RowKit Cx
set_option linter.unusedSimpArgs false
set_option linter.unusedVariables false

set_option maxRecDepth 100000 in
set_option maxHeartbeats 60000000 in
theorem plainp_5 (P : Nat → Prop) (n f : Int) (s : ByteArray) (l : List Ob) (d : List Entr) (IHL : ∀ z ∈ l, PlP P z) (IHD : ∀ e ∈ d, PlP P e.2) : PlP P (.mk 5 n f s l d) := by
  intro h w h1
  have H1 := Lib.hid h1
  have HIL := Lib.hid IHL
  have HID := Lib.hid IHD
  have hb := h1.bounds
  obtain ⟨p1, c1, q1, e1⟩ := h
  clear h1 IHL IHD
  obtain ⟨hb1, hb2, _⟩ := hb
  unfold maxLen at hb1 hb2
  simp only [Ob.l, Ob.d] at hb1 hb2
  unfold objV
  simp only [Ob.k, Ob.n, Ob.f, Ob.s, Ob.l, Ob.d]
  obtain ⟨L, hL⟩ : ∃ L, L = l.length := ⟨_, rfl⟩
  obtain ⟨D, hD⟩ : ∃ D, D = d.length := ⟨_, rfl⟩
  rw [← hL, ← hD]
  rw [← hL] at hb1
  rw [← hD] at hb2
  have HL := Lib.hid hL
  have HD := Lib.hid hD
  clear hL hD
  have B1 := Lib.hid (Blk.fresh w #[.int .i64 5, .int .i64 n, .int .i64 f, .string s, .slice p1 L c1, .slice q1 D e1] 32)
  have K1 := Lib.hid ((Kept.refl w).alloc #[.int .i64 5, .int .i64 n, .int .i64 f, .string s, .slice p1 L c1, .slice q1 D e1] 32)
  obtain ⟨r0, r1, r2, r3, r4, r5⟩ := B1.out.cells6
  by_cases hn : n = 0
  · have hn' : (n != 0) = false := by simpa using hn
    have Hn := Lib.hid hn
    clear hn
    by_cases hf : f = 0
    · have hf' : (f != 0) = false := by simpa using hf
      have Hf := Lib.hid hf
      clear hf
      by_cases hs : s.toList = []
      · have Hs := Lib.hid (toList_nilP hs)
        have hs' : (s.toList == []) = true := by rw [hs]; rfl
        clear hs
        by_cases hd : (0 : Int) < (D : Int)
        · skip
          go_enter Tryz.func9, Tryz.ntmps9
          (try simp only [List.append_eq, List.cons_append, List.nil_append])
          go_wp2_with fail
          all_goals
            go_ret
            exact PlPost.no K1.out
        · have Hd0 := Lib.hid (show d = [] from List.eq_nil_of_length_eq_zero (by have := HD.out; omega))
          obtain rfl : D = 0 := by omega
          clear hd
          have HN := Lib.hid (show normL l = l → (Ob.mk 5 n f s l d).norm = Ob.mk 5 n f s l d from fun h5 => by rw [norm_mk, h5]; simp [normD_map, (show n = 0 from Hn.out), (show f = 0 from Hf.out), (show s = ⟨#[]⟩ from Hs.out), (show d = [] from Hd0.out)])
          go_enter Tryz.func9, Tryz.ntmps9
          (try simp only [List.append_eq, List.cons_append, List.nil_append])
          go_wp2_with fail
          go_loopg [4] (L) (fun m i wr => ∃ (j : Nat), m = L - j ∧ j ≤ L ∧ i = .int .i64 j ∧ Hid (Kept w wr ∧ Blk wr w.heap.size #[.int .i64 5, .int .i64 n, .int .i64 f, .string s, .slice p1 L c1, .slice q1 0 e1] 32) ∧ Hid (∀ i (h : i < j) (h1 : i < l.length), l[i].norm = l[i]))
          case atStart => exact ⟨0, by omega, Nat.zero_le _, rfl, Lib.hid ⟨K1.out, B1.out⟩, Lib.hid (fun i h => absurd h (Nat.not_lt_zero _))⟩
          case round =>
            obtain ⟨j, hm, hj, rfl, HJ, HS⟩ := hrel
            have KJ := Lib.hid HJ.out.1
            have BJ := Lib.hid HJ.out.2
            clear r0 r1 r2 r3 r4 r5
            obtain ⟨r0, r1, r2, r3, r4, r5⟩ := BJ.out.cells6
            by_cases hlt : j < L
            · have hlt2 : j < l.length := by have := HL.out; omega
              obtain ⟨x, b, off, ⟨p', c', q', e'⟩, hxe, hp, -, hbl, hx, y0, y1, y2, y3, y4, y5⟩ := (H1.out.kept KJ.out).elem j (by have := HL.out; exact this ▸ hlt)
              (try simp only [Ob.l] at hxe)
              (try simp only [] at hp y4 y5)
              subst hp
              have HXE := Lib.hid hxe
              have IX0 := HIL.out x (by rw [← hxe]; exact List.getElem_mem _) ⟨p', c', q', e'⟩
              unfold objV at IX0
              simp only [] at IX0
              have IX := Lib.hid (IX0 _ hx)
              clear IX0 hx hxe
              go_wp2_with fail
              (with_reducible refine IX.out.mono ?_)
              rintro e wn hp0
              obtain ⟨X, rfl, kn, hX⟩ := hp0
              have KN := Lib.hid (KJ.out.trans kn)
              have BN := Lib.hid (BJ.out.kept kn)
              cases X
              · clear hX kn
                go_wp2_with fail
                go_ret
                exact PlPost.no KN.out
              · have HS1 := Lib.hid (show ∀ i (h : i < j + 1) (h1 : i < l.length), l[i].norm = l[i] from fun i h h1 => by
                  by_cases hij : i < j
                  · exact HS.out i hij h1
                  · obtain rfl : i = j := by omega
                    rw [HXE.out]; exact hX rfl)
                clear hX kn
                go_wp2_with fail
                go_roundg (L - (j + 1))
                case measure => omega
                case rel => exact ⟨j + 1, rfl, by omega, by go_num, Lib.hid ⟨KN.out, BN.out⟩, HS1⟩
            · have hjN : j = L := by omega
              subst j
              have HA := Lib.hid (HN.out (by
                have : normL l = l := by
                  rw [normL_map]
                  refine List.ext_getElem (by simp) fun i h1 h2 => ?_
                  rw [List.getElem_map]
                  exact HS.out i (by have := HL.out; omega) h2
                exact this))
              go_wp2_with fail
              go_loopg [5] 0 (fun m i wr => i = .int .i64 0 ∧ Hid (Kept w wr ∧ Blk wr w.heap.size #[.int .i64 5, .int .i64 n, .int .i64 f, .string s, .slice p1 L c1, .slice q1 0 e1] 32))
              case atStart => exact ⟨rfl, Lib.hid ⟨KJ.out, BJ.out⟩⟩
              case round =>
                obtain ⟨rfl, HI⟩ := hrel
                have KI := Lib.hid HI.out.1
                have BI := Lib.hid HI.out.2
                clear r0 r1 r2 r3 r4 r5
                obtain ⟨r0, r1, r2, r3, r4, r5⟩ := BI.out.cells6
                go_wp2_with fail
                go_ret
                exact PlPost.yes HA.out KI.out
      · have hs' : (s.toList == []) = false := by simpa using hs
        clear hs
        go_enter Tryz.func9, Tryz.ntmps9
        (try simp only [List.append_eq, List.cons_append, List.nil_append])
        go_wp2_with fail
        all_goals
          go_ret
          exact PlPost.no K1.out
    · have hf' : (f != 0) = true := by simpa using hf
      clear hf
      go_enter Tryz.func9, Tryz.ntmps9
      (try simp only [List.append_eq, List.cons_append, List.nil_append])
      go_wp2_with fail
      all_goals
        go_ret
        exact PlPost.no K1.out
  · have hn' : (n != 0) = true := by simpa using hn
    clear hn
    go_enter Tryz.func9, Tryz.ntmps9
    (try simp only [List.append_eq, List.cons_append, List.nil_append])
    go_wp2_with fail
    all_goals
      go_ret
      exact PlPost.no K1.out

end Go.Proofs.YtkpagahnmbchjaaGreatDoor

namespace Go.Proofs.YtkpagahnmbchjaaGreatDoor
open Go.RowKit Cx
set_option linter.unusedSimpArgs false
set_option linter.unusedVariables false

set_option maxRecDepth 100000 in
set_option maxHeartbeats 60000000 in
theorem plainp_6 (P : Nat → Prop) (n f : Int) (s : ByteArray) (l : List Ob) (d : List Entr) (IHL : ∀ z ∈ l, PlP P z) (IHD : ∀ e ∈ d, PlP P e.2) : PlP P (.mk 6 n f s l d) := by
  intro h w h1
  have H1 := Lib.hid h1
  have HIL := Lib.hid IHL
  have HID := Lib.hid IHD
  have hb := h1.bounds
  obtain ⟨p1, c1, q1, e1⟩ := h
  clear h1 IHL IHD
  obtain ⟨hb1, hb2, _⟩ := hb
  unfold maxLen at hb1 hb2
  simp only [Ob.l, Ob.d] at hb1 hb2
  unfold objV
  simp only [Ob.k, Ob.n, Ob.f, Ob.s, Ob.l, Ob.d]
  obtain ⟨L, hL⟩ : ∃ L, L = l.length := ⟨_, rfl⟩
  obtain ⟨D, hD⟩ : ∃ D, D = d.length := ⟨_, rfl⟩
  rw [← hL, ← hD]
  rw [← hL] at hb1
  rw [← hD] at hb2
  have HL := Lib.hid hL
  have HD := Lib.hid hD
  clear hL hD
  have B1 := Lib.hid (Blk.fresh w #[.int .i64 6, .int .i64 n, .int .i64 f, .string s, .slice p1 L c1, .slice q1 D e1] 32)
  have K1 := Lib.hid ((Kept.refl w).alloc #[.int .i64 6, .int .i64 n, .int .i64 f, .string s, .slice p1 L c1, .slice q1 D e1] 32)
  obtain ⟨r0, r1, r2, r3, r4, r5⟩ := B1.out.cells6
  by_cases hn : n = 0
  · have hn' : (n != 0) = false := by simpa using hn
    have Hn := Lib.hid hn
    clear hn
    by_cases hf : f = 0
    · have hf' : (f != 0) = false := by simpa using hf
      have Hf := Lib.hid hf
      clear hf
      by_cases hs : s.toList = []
      · have Hs := Lib.hid (toList_nilP hs)
        have hs' : (s.toList == []) = true := by rw [hs]; rfl
        clear hs
        by_cases hl : (0 : Int) < (L : Int)
        · skip
          go_enter Tryz.func9, Tryz.ntmps9
          (try simp only [List.append_eq, List.cons_append, List.nil_append])
          go_wp2_with fail
          all_goals
            go_ret
            exact PlPost.no K1.out
        · have Hl0 := Lib.hid (show l = [] from List.eq_nil_of_length_eq_zero (by have := HL.out; omega))
          obtain rfl : L = 0 := by omega
          clear hl
          have HN := Lib.hid (show normD d = d → (Ob.mk 6 n f s l d).norm = Ob.mk 6 n f s l d from fun h5 => by rw [norm_mk, h5]; simp [normL_map, (show n = 0 from Hn.out), (show f = 0 from Hf.out), (show s = ⟨#[]⟩ from Hs.out), (show l = [] from Hl0.out)])
          go_enter Tryz.func9, Tryz.ntmps9
          (try simp only [List.append_eq, List.cons_append, List.nil_append])
          go_wp2_with fail
          go_loopg [4] 0 (fun m i wr => i = .int .i64 0 ∧ Hid (Kept w wr ∧ Blk wr w.heap.size #[.int .i64 6, .int .i64 n, .int .i64 f, .string s, .slice p1 0 c1, .slice q1 D e1] 32))
          case atStart => exact ⟨rfl, Lib.hid ⟨K1.out, B1.out⟩⟩
          case round =>
            obtain ⟨rfl, HI⟩ := hrel
            have KI := Lib.hid HI.out.1
            have BI := Lib.hid HI.out.2
            clear r0 r1 r2 r3 r4 r5
            obtain ⟨r0, r1, r2, r3, r4, r5⟩ := BI.out.cells6
            go_wp2_with fail
            go_loopg [5] (D) (fun m i wr => ∃ (j : Nat), m = D - j ∧ j ≤ D ∧ i = .int .i64 j ∧ Hid (Kept w wr ∧ Blk wr w.heap.size #[.int .i64 6, .int .i64 n, .int .i64 f, .string s, .slice p1 0 c1, .slice q1 D e1] 32) ∧ Hid (∀ i (h : i < j) (h1 : i < d.length), (d[i].1, d[i].2.norm) = d[i]))
            case atStart => exact ⟨0, by omega, Nat.zero_le _, rfl, Lib.hid ⟨KI.out, BI.out⟩, Lib.hid (fun i h => absurd h (Nat.not_lt_zero _))⟩
            case round =>
              obtain ⟨j, hm, hj, rfl, HJ, HS⟩ := hrel
              have KJ := Lib.hid HJ.out.1
              have BJ := Lib.hid HJ.out.2
              clear r0 r1 r2 r3 r4 r5
              obtain ⟨r0, r1, r2, r3, r4, r5⟩ := BJ.out.cells6
              by_cases hlt : j < D
              · have hlt2 : j < d.length := by have := HD.out; omega
                obtain ⟨ek, x, b, off, ⟨p', c', q', e'⟩, hxe, hp, -, hbl, hx, -, y9, y0, y1, y2, y3, y4, y5⟩ := (H1.out.kept KJ.out).entry j (by have := HD.out; exact this ▸ hlt)
                (try simp only [Ob.d] at hxe)
                simp only [] at hp y4 y5
                subst hp
                have HXE := Lib.hid hxe
                have IX0 := HID.out (ek, x) (by rw [← hxe]; exact List.getElem_mem _) ⟨p', c', q', e'⟩
                unfold objV at IX0
                simp only [] at IX0
                have IX := Lib.hid (IX0 _ hx)
                clear IX0 hx hxe
                go_wp2_with fail
                (with_reducible refine IX.out.mono ?_)
                rintro e wn hp0
                obtain ⟨X, rfl, kn, hX⟩ := hp0
                have KN := Lib.hid (KJ.out.trans kn)
                have BN := Lib.hid (BJ.out.kept kn)
                cases X
                · clear hX kn
                  go_wp2_with fail
                  go_ret
                  exact PlPost.no KN.out
                · have HS1 := Lib.hid (show ∀ i (h : i < j + 1) (h1 : i < d.length), (d[i].1, d[i].2.norm) = d[i] from fun i h h1 => by
                    by_cases hij : i < j
                    · exact HS.out i hij h1
                    · obtain rfl : i = j := by omega
                      rw [HXE.out]; exact congrArg (Prod.mk ek) (hX rfl))
                  clear hX kn
                  go_wp2_with fail
                  go_roundg (D - (j + 1))
                  case measure => omega
                  case rel => exact ⟨j + 1, rfl, by omega, by go_num, Lib.hid ⟨KN.out, BN.out⟩, HS1⟩
              · have hjN : j = D := by omega
                subst j
                have HA := Lib.hid (HN.out (by
                  have : normD d = d := by
                    rw [normD_map]
                    refine List.ext_getElem (by simp) fun i h1 h2 => ?_
                    rw [List.getElem_map]
                    exact HS.out i (by have := HD.out; omega) h2
                  exact this))
                go_wp2_with fail
                go_ret
                exact PlPost.yes HA.out KJ.out
      · have hs' : (s.toList == []) = false := by simpa using hs
        clear hs
        go_enter Tryz.func9, Tryz.ntmps9
        (try simp only [List.append_eq, List.cons_append, List.nil_append])
        go_wp2_with fail
        all_goals
          go_ret
          exact PlPost.no K1.out
    · have hf' : (f != 0) = true := by simpa using hf
      clear hf
      go_enter Tryz.func9, Tryz.ntmps9
      (try simp only [List.append_eq, List.cons_append, List.nil_append])
      go_wp2_with fail
      all_goals
        go_ret
        exact PlPost.no K1.out
  · have hn' : (n != 0) = true := by simpa using hn
    clear hn
    go_enter Tryz.func9, Tryz.ntmps9
    (try simp only [List.append_eq, List.cons_append, List.nil_append])
    go_wp2_with fail
    all_goals
      go_ret
      exact PlPost.no K1.out

end Go.Proofs.YtkpagahnmbchjaaGreatDoor

namespace Go.Proofs.YtkpagahnmbchjaaGreatDoor
open Go.RowKit Cx

theorem plainp_step (P : Nat → Prop) (x : Ob) (IHL : ∀ z ∈ x.l, PlP P z) (IHD : ∀ e ∈ x.d, PlP P e.2) : PlP P x := by
  obtain ⟨k, n, f, s, l, d⟩ := x
  by_cases h1 : k = 1
  · subst h1; exact plainp_1 P n f s l d IHL IHD
  by_cases h2 : k = 2
  · subst h2; exact plainp_2 P n f s l d IHL IHD
  by_cases h3 : k = 3
  · subst h3; exact plainp_3 P n f s l d IHL IHD
  by_cases h4 : k = 4
  · subst h4; exact plainp_4 P n f s l d IHL IHD
  by_cases h5 : k = 5
  · subst h5; exact plainp_5 P n f s l d IHL IHD
  by_cases h6 : k = 6
  · subst h6; exact plainp_6 P n f s l d IHL IHD
  exact plainp_x P k n f s l d ⟨h1, h2, h3, h4, h5, h6⟩ IHL IHD
theorem plainp_all (P : Nat → Prop) (N : Nat) : ∀ (x : Ob), SizeOf.sizeOf x ≤ N → PlP P x := by
  induction N with
  | zero =>
    intro x hN
    cases x; simp at hN
  | succ N ih =>
    intro x hN
    exact plainp_step P x (fun z hz => ih z (by have := sizeOf_l hz; omega)) (fun e he => ih e.2 (by have := sizeOf_d he; omega))
theorem plainp_any (P : Nat → Prop) (x : Ob) (h : Hd) (w : World) (hl : Lies (Cel P w) x h) :
    Calls Tryz.prog 9 #[objV x h] w fun e w' => PlPost w x e w' := plainp_all P _ x (Nat.le_refl _) h w hl

end Go.Proofs.YtkpagahnmbchjaaGreatDoor
