/-
  XrefNone: a text without the letter t has no table, and tells of none.
-/
import Derived.Test.YtnmehngedljgoaaGreatDoorXrfAwake
import Derived.Test.YtnmehngedljgoaaGreatDoorXrfParse
namespace Go.Proofs.YtnmehngedljgoaaGreatDoor
open Go.RowKit Rx
set_option linter.unusedSimpArgs false
set_option linter.unusedVariables false

theorem no_t {s : ByteArray} (h : ∀ (j : Nat) (hj : j < s.size), s[j] ≠ 116) : ∀ b ∈ s.data.toList, b ≠ 116 := fun b hb => by
  obtain ⟨j, hj, e⟩ := List.getElem_of_mem hb
  have hj' : j < s.size := by simpa using hj
  rw [← e]
  exact h j hj'

theorem Parse_none (s : ByteArray) (a : Int) (hs : s.size ≤ 65536) (hn : ∀ b ∈ s.data.toList, b ≠ 116) : ∃ E : Int, E ≠ 0 ∧ ∀ w : World, HasMax w →
    Calls Tryz.prog 23 #[.string s, .int .i64 a] w fun e w' => ∃ (p q r : Option Addr) (c d f : Nat), e = .returned (.tuple #[.slice p 0 c, .agg #[.int .i64 0, .int .i64 0, .int .i64 0, .string ⟨#[]⟩, .slice q 0 d, .slice r 0 f], .int .i64 E]) ∧ Kept w w' := by
  have h := parse_no hn a
  obtain ⟨h1, h2⟩ := h
  refine ⟨(parseX s.data.toList a).1, h1, fun w hm => (xParse_any s a w hs hm _ rfl).mono ?_⟩
  rintro e w' ⟨v, h, rfl, hE, hk⟩
  rw [h2] at hE ⊢
  obtain ⟨p, c, rfl, -⟩ := hE.shape
  exact ⟨p, h.p, h.q, c, h.c, h.e, rfl, hk⟩

set_option maxRecDepth 100000 in
set_option maxHeartbeats 8000000 in
theorem XrefNone_walk (s : ByteArray) (at_ : Int) (w : World) (h : Okw w) :
    Calls Tryz.prog 8 #[.string s, .int .i64 at_] w fun e w' => e = .returned (.bool true) ∧ Kept w w' := by
  obtain ⟨hm, B, hf, hB⟩ := h
  have HM := Lib.hid hm
  have CA := Lib.hid (awake8_any B w hm hf hB)
  clear hm hf hB
  by_cases hs : 1000 < s.size
  · go_enter Tryz.func8, Tryz.ntmps8
    go_wp2_with fail
    (with_reducible refine CA.out.mono ?_)
    rintro e w1 ⟨rfl, hk1⟩
    go_wp2_with fail
    go_ret
    exact ⟨rfl, hk1⟩
  have hs' : s.size ≤ 1000 := by omega
  clear hs
  go_enter Tryz.func8, Tryz.ntmps8
  go_wp2_with fail
  (with_reducible refine CA.out.mono ?_)
  rintro e w1 ⟨rfl, hk1⟩
  have HK1 := Lib.hid hk1
  clear hk1
  go_wp2_with fail
  go_loop [6] (fun i => ∃ k : Nat, k ≤ s.size ∧ i = .int .i64 k ∧ Hid (∀ (j : Nat) (h : j < s.size), j < k → s[j] ≠ 116)) (fun i => s.size - (intOf i).toNat)
  case atStart => exact ⟨0, Nat.zero_le _, rfl, Lib.hid (fun j h hj => by omega)⟩
  case round =>
    obtain ⟨k, hk, rfl, HE⟩ := hrel
    by_cases hlt : k < s.size
    · by_cases ht : s[k] = 116
      · have h1 : (s[k].toNat : Int) = 116 := by rw [ht]; rfl
        go_wp2_with fail
        go_ret
        exact ⟨rfl, HK1.out⟩
      · have h1 : ¬ ((s[k].toNat : Int) = 116) := fun h => ht (by
          have h2 : s[k].toNat = 116 := by omega
          rw [← UInt8.toNat_inj, h2]; rfl)
        have HN := Lib.hid (show ∀ (j : Nat) (h : j < s.size), j < k + 1 → s[j] ≠ 116 from fun j h hj => by
          by_cases e : j = k
          · subst e; exact ht
          · exact HE.out j h (by omega))
        clear ht
        go_wp2_with fail
        go_round
        case rel => exact ⟨k + 1, by omega, by go_num, HN⟩
        case measure => simp [intOf]; omega
    · obtain rfl : k = s.size := by omega
      have hn := no_t (fun j hj => HE.out j hj hj)
      have CS := Lib.hid (fun W (h : HasMax W) => show Calls Tryz.prog 24 #[.string s] W fun e w' => e = .returned (.tuple #[.int .i64 0, .int .i64 3]) ∧ Kept W w' from
        Start_any s W (by omega) h (3, 0) (start_no hn).symm)
      obtain ⟨E, hE, hP⟩ := Parse_none s at_ (by omega) hn
      have CP := Lib.hid hP
      clear hP hn
      go_wp2_with fail
      (with_reducible refine (CS.out _ (HM.out.kept HK1.out)).mono ?_)
      rintro e w2 ⟨rfl, hk2⟩
      have K2 := Lib.hid (HK1.out.trans hk2)
      clear hk2
      go_wp2_with fail
      (with_reducible refine (CP.out _ (HM.out.kept K2.out)).mono ?_)
      rintro e w3 ⟨p, q, r, c, d, f, rfl, hk3⟩
      have K3 := Lib.hid (K2.out.trans hk3)
      clear hk3
      go_wp2_with fail
      go_ret
      exact ⟨congrArg (fun b => Ending.returned (.bool b)) (show (E != 0) = true by simpa using hE), K3.out.allocO _⟩

end Go.Proofs.YtnmehngedljgoaaGreatDoor
