/-
  LexEnds: a token ends behind where it begins, within the text, and is the same read alone.
-/
import Derived.Test.YtgijgklojlfihaaLexAwake
import Derived.Test.YtgijgklojlfihaaLexAlone
namespace Go.Proofs.Ytgijgklojlfihaa
open Go.RowKit

theorem extract_alone (s : ByteArray) (i j : Nat) (h : i ≤ j) : (s.extract i j).data.toList = (s.data.toList.drop i).take (j - i) := by
  have := extract_run s i (j - i)
  rw [show i + (j - i) = j by omega] at this
  rw [this]

theorem next_arg {l : List UInt8} {a : Int} (h : a < 0 ∨ (l.length : Int) < a) : Lx.nextV l a = (1, Lx.zero) := by
  unfold Lx.nextV; rw [if_neg (by omega)]

set_option maxRecDepth 100000 in
set_option maxHeartbeats 8000000 in
theorem lexEnds_any (s : ByteArray) (a : Int) (w : World) (hm : HasMax w) :
    Calls Try.prog 7 #[.string s, .int .i64 a] w fun e w' => e = .returned (.bool true) ∧ Kept w w' := by
  have HM := Lib.hid hm
  clear hm
  by_cases hs : 1000 < s.size
  · go_enter Try.func7, Try.ntmps7
    go_wp2_with fail
    refine (awake_any _ HM.out).mono ?_
    rintro e w1 ⟨rfl, hk1⟩
    go_wp2_with fail
    go_ret
    exact ⟨rfl, hk1⟩
  have hs' : s.size ≤ 1000 := by omega
  clear hs
  go_enter Try.func7, Try.ntmps7
  go_wp2_with fail
  refine (awake_any _ HM.out).mono ?_
  rintro e w1 ⟨rfl, hk1⟩
  have HK1 := Lib.hid hk1
  clear hk1
  go_wp2_with fail
  have hlen : s.data.toList.length = s.size := by simp
  by_cases hout : a < 0 ∨ (s.size : Int) < a
  · have hT := next_arg (l := s.data.toList) (a := a) (by rw [hlen]; exact hout)
    refine (Next_any s a _ (by omega) (HM.out.kept HK1.out) _ hT.symm).mono ?_
    rintro e w2 ⟨rfl, hk2⟩
    have H2 := Lib.hid (HK1.out.trans hk2)
    clear hk2 hT hlen
    rcases hout with h | h
    · go_wp2_with fail
      go_ret
      exact ⟨rfl, H2.out.alloc _ _⟩
    · have h0 : ¬ a < 0 := by omega
      go_wp2_with fail
      go_ret
      exact ⟨rfl, H2.out.alloc _ _⟩
  have ha0 : 0 ≤ a := by omega
  have ha1 : a ≤ (s.size : Int) := by omega
  clear hout
  obtain ⟨⟨er, kd, fv, st, wh, fr, to⟩, hT⟩ : ∃ T, T = Lx.nextV s.data.toList a := ⟨_, rfl⟩
  refine (Next_any s a _ (by omega) (HM.out.kept HK1.out) _ hT).mono ?_
  rintro e w2 ⟨rfl, hk2⟩
  have H2 := Lib.hid (show In w [] w2 from ⟨HK1.out.trans hk2, fun _ h => absurd h List.not_mem_nil⟩)
  have HTT := Lib.hid hT
  clear hk2 hT
  simp only []
  by_cases he : er = 0
  · subst he
    have hbd := Lx.next_bd s.data.toList a (by rw [← HTT.out])
    rw [← HTT.out, hlen] at hbd
    obtain ⟨_, _, b1, b2, b3, b4, b5⟩ := hbd
    simp only [] at b1 b2 b3 b4 b5
    have HAL := Lib.hid (show ((0 : Int), (⟨kd, fv, st, wh, 0, to - fr⟩ : Lx.Tok)) = Lx.nextV (s.extract fr to).data.toList 0 by
      have := Lx.next_alone s.data.toList a (by rw [← HTT.out])
      rw [← HTT.out] at this
      rw [extract_alone s fr to b3]
      exact this.symm)
    have G2 := Lib.hid (In.fresh H2.out #[.int .i64 kd, .int .i64 fv, .string ⟨st.toArray⟩, .bool wh, .int .i64 fr, .int .i64 to] 25)
    have HM2 := Lib.hid (HM.out.kept G2.out.1)
    have hsz : (s.extract fr to).size ≤ 1000 := by
      have := extract_alone s fr to b3
      have h2 := congrArg List.length this
      simp at h2 ⊢; omega
    clear hlen
    rcases b5 with ⟨k1, k2, k3⟩ | ⟨k1, k2, k3⟩
    · have c1 : (kd == 0) = true := by simpa using k1
      have c2 : ((fr : Int) == (s.size : Int)) = true := by rw [beq_iff_eq]; omega
      have c3 : ((to : Int) == (fr : Int)) = true := by rw [beq_iff_eq]; omega
      have c4 : (fr == s.size) = true := by rw [beq_iff_eq]; omega
      have c5 : (to == fr) = true := by rw [beq_iff_eq]; omega
      clear k1 k2 k3
      go_wp2_with fail
      (with_reducible refine (Next_any (s.extract fr to) 0 _ (by omega) HM2.out _ HAL.out).mono ?_)
      rintro e w3 ⟨rfl, hk3⟩
      have H3 := Lib.hid (G2.out.kept hk3)
      have B2 := Lib.hid (In.mem H3.out List.mem_cons_self)
      obtain ⟨a0, a1, a2, a3, a4, a5⟩ := B2.out.cells6
      have z2 : w2.heap.size < w3.heap.size := B2.out.lt
      have c9 : ((to - fr : Nat) : Int) = (to : Int) - (fr : Int) := by omega
      clear hk3 hsz
      simp only []
      go_wp2_with fail
      go_ret
      exact ⟨rfl, H3.out.1.alloc _ _⟩
    · have c1 : (kd == 0) = false := by simpa using k1
      have c2 : ((fr : Int) == (s.size : Int)) = false := by rw [beq_eq_false_iff_ne]; omega
      have c3 : ((to : Int) == (fr : Int)) = false := by rw [beq_eq_false_iff_ne]; omega
      have c4 : (fr == s.size) = false := by rw [beq_eq_false_iff_ne]; omega
      have c5 : (to == fr) = false := by rw [beq_eq_false_iff_ne]; omega
      clear k1
      go_wp2_with fail
      (with_reducible refine (Next_any (s.extract fr to) 0 _ (by omega) HM2.out _ HAL.out).mono ?_)
      rintro e w3 ⟨rfl, hk3⟩
      have H3 := Lib.hid (G2.out.kept hk3)
      have B2 := Lib.hid (In.mem H3.out List.mem_cons_self)
      obtain ⟨a0, a1, a2, a3, a4, a5⟩ := B2.out.cells6
      have z2 : w2.heap.size < w3.heap.size := B2.out.lt
      have c9 : ((to - fr : Nat) : Int) = (to : Int) - (fr : Int) := by omega
      clear hk3 hsz
      simp only []
      go_wp2_with fail
      go_ret
      exact ⟨rfl, H3.out.1.alloc _ _⟩
  · have hne : (er != 0) = true := by simpa using he
    clear he
    go_wp2_with fail
    go_ret
    exact ⟨rfl, H2.out.1.alloc _ _⟩

end Go.Proofs.Ytgijgklojlfihaa
