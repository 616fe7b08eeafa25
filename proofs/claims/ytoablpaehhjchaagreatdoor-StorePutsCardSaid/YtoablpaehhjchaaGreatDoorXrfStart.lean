import Derived.Test.YtoablpaehhjchaaGreatDoorXrfB
namespace Go.Proofs.YtoablpaehhjchaaGreatDoor
open Go.RowKit Rx
set_option linter.unusedSimpArgs false
set_option linter.unusedVariables false

theorem last_bd (l : List UInt8) : -1 ≤ Lib.lastIndex l startT ∧ Lib.lastIndex l startT ≤ l.length := by
  unfold Lib.lastIndex
  split
  · rcases Lib.lastOcc_spec l startT (l.length - startT.length + 1) with ⟨e, _⟩ | ⟨i, hi, e, _⟩
    · rw [e]; omega
    · rw [e]; omega
  · omega

set_option maxRecDepth 100000 in
set_option maxHeartbeats 4000000 in
theorem Start_any (s : ByteArray) (w : World) (hs : s.size ≤ 4294967295) (hm : HasMax w) (X : Int × Int) (hX : X = startX s.data.toList) :
    Calls Tryz.prog 25 #[.string s] w fun e w' => e = .returned (.tuple #[.int .i64 X.2, .int .i64 X.1]) ∧ Kept w w' := by
  have hlen : s.data.toList.length = s.size := by simp
  obtain ⟨m, hmk⟩ : ∃ m, m = Lib.lastIndex s.data.toList startT := ⟨_, rfl⟩
  have hb := last_bd s.data.toList
  rw [← hmk, hlen] at hb
  obtain ⟨b0, b1⟩ := hb
  have CL := Lib.hid (fun W => show Calls Tryz.prog 42 #[.string s, .string ⟨#[115, 116, 97, 114, 116, 120, 114, 101, 102]⟩] W fun e w' => e = .returned (.int .i64 m) ∧ w' = W from by rw [hmk]; exact Tryz.strings_LastIndex s ⟨#[115, 116, 97, 114, 116, 120, 114, 101, 102]⟩ (by omega) W)
  obtain ⟨P, hP⟩ : ∃ P, P = wholeX s.data.toList (m + 9) := ⟨_, rfl⟩
  have HX := Lib.hid (show X = if m < 0 then (3, 0) else if P.1 = 4 then (3, 0) else if P.1 = 0 then (if (s.size : Int) < P.2.1 then (2, 0) else (0, P.2.1)) else (P.1, 0) by rw [hX, startX, ← hmk, hlen, ← hP])
  have KR := Lib.hid ((Kept.refl w).alloc #[.string s, .int .i64 (m + 9)] 93)
  have RR := Lib.hid (show Rdr s (m + 9) w.heap.size (w.alloc (.cells #[.string s, .int .i64 (m + 9)] 93)) from Blk.fresh w _ _)
  have CP := Lib.hid (whole_any s (m + 9) w.heap.size _ hs (hm.kept KR.out) RR.out P hP)
  have i1 : IntKind.i64.wrap (m + 9) = m + 9 := IntWalk.i64_in _ (by omega)
  clear hX hP hm hmk
  obtain ⟨pe, pv, pt⟩ := P
  simp only [] at CP HX
  by_cases hneg : m < 0
  · have HV := Lib.hid (show X = (3, 0) by rw [HX.out, if_pos hneg])
    clear HX CP
    go_enter Tryz.func25, Tryz.ntmps25
    go_wp2_with (go_at_call 42; refine (CL.out _).mono ?_; rintro e w1 ⟨rfl, rfl⟩)
    go_ret2
    exact ⟨by rw [HV.out]; first | done | rfl, Kept.refl _⟩
  · by_cases h4 : pe = 4
    · subst h4
      have HV := Lib.hid (show X = (3, 0) by rw [HX.out, if_neg hneg, if_pos rfl])
      clear HX
      go_enter Tryz.func25, Tryz.ntmps25
      go_wp2_with (first | (go_at_call 42; refine (CL.out _).mono ?_; rintro e w1 ⟨rfl, rfl⟩) | (go_at_call 43; refine CP.out.mono ?_; rintro e w2 ⟨rfl, hx2, hg2⟩))
      go_ret2
      exact ⟨by rw [HV.out]; first | done | rfl, Below.grown KR.out hg2 (by simp) (fun k e => by cases e; exact Nat.le_refl _)⟩
    · by_cases h0 : pe = 0
      · subst h0
        by_cases hbig : (s.size : Int) < pv
        · have HV := Lib.hid (show X = (2, 0) by rw [HX.out, if_neg hneg, if_neg h4, if_pos rfl, if_pos hbig])
          clear HX h4
          go_enter Tryz.func25, Tryz.ntmps25
          go_wp2_with (first | (go_at_call 42; refine (CL.out _).mono ?_; rintro e w1 ⟨rfl, rfl⟩) | (go_at_call 43; refine CP.out.mono ?_; rintro e w2 ⟨rfl, hx2, hg2⟩))
          go_ret2
          exact ⟨by rw [HV.out]; first | done | rfl, Below.grown KR.out hg2 (by simp) (fun k e => by cases e; exact Nat.le_refl _)⟩
        · have HV := Lib.hid (show X = (0, pv) by rw [HX.out, if_neg hneg, if_neg h4, if_pos rfl, if_neg hbig])
          clear HX h4
          go_enter Tryz.func25, Tryz.ntmps25
          go_wp2_with (first | (go_at_call 42; refine (CL.out _).mono ?_; rintro e w1 ⟨rfl, rfl⟩) | (go_at_call 43; refine CP.out.mono ?_; rintro e w2 ⟨rfl, hx2, hg2⟩))
          go_ret2
          exact ⟨by rw [HV.out]; first | done | rfl, Below.grown KR.out hg2 (by simp) (fun k e => by cases e; exact Nat.le_refl _)⟩
      · have HV := Lib.hid (show X = (pe, 0) by rw [HX.out, if_neg hneg, if_neg h4, if_neg h0])
        have hne : (pe != 0) = true := by simpa using h0
        have hn4 : (pe == 4) = false := by simpa using h4
        clear HX h4 h0
        go_enter Tryz.func25, Tryz.ntmps25
        go_wp2_with (first | (go_at_call 42; refine (CL.out _).mono ?_; rintro e w1 ⟨rfl, rfl⟩) | (go_at_call 43; refine CP.out.mono ?_; rintro e w2 ⟨rfl, hx2, hg2⟩))
        go_ret2
        exact ⟨by rw [HV.out]; first | done | rfl, Below.grown KR.out hg2 (by simp) (fun k e => by cases e; exact Nat.le_refl _)⟩

end Go.Proofs.YtoablpaehhjchaaGreatDoor
