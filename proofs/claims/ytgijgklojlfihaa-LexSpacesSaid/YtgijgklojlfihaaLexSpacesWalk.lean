/-
  LexSpaces: white and comments ahead of a token say nothing but where it begins.
-/
import Derived.Test.YtgijgklojlfihaaLexAwake
import Derived.Test.YtgijgklojlfihaaLexShift
import Derived.Test.YtgijgklojlfihaaLexBound
namespace Go.Proofs.Ytgijgklojlfihaa
open Go.RowKit

theorem spaces_ahead (c s : ByteArray) (hc : ∀ (k : Nat) (h : k < c.size), c[k] ≠ 10 ∧ c[k] ≠ 13) :
    Lx.nextV ((⟨#[32, 9, 37]⟩ ++ c ++ ⟨#[10, 0]⟩ ++ s : ByteArray).data.toList) 0 =
      if (Lx.nextV s.data.toList 0).1 = 0 then (0, { (Lx.nextV s.data.toList 0).2 with frm := (Lx.nextV s.data.toList 0).2.frm + (c.size + 5), to := (Lx.nextV s.data.toList 0).2.to + (c.size + 5) }) else Lx.nextV s.data.toList 0 := by
  have e : (⟨#[32, 9, 37]⟩ ++ c ++ ⟨#[10, 0]⟩ ++ s : ByteArray).data.toList = [32, 9, 37] ++ c.data.toList ++ [10, 0] ++ s.data.toList := by simp
  have h : ∀ b ∈ c.data.toList, Lx.inLine b = true := by
    intro b hb
    obtain ⟨k, hk, rfl⟩ := List.getElem_of_mem hb
    obtain ⟨h1, h2⟩ := hc k (by simpa using hk)
    simp [Lx.inLine]
    exact ⟨h1, h2⟩
  rw [e, Lx.next_spaces _ _ h, show c.data.toList.length = c.size by simp]

theorem ahead_size (c s : ByteArray) : (⟨#[32, 9, 37]⟩ ++ c ++ ⟨#[10, 0]⟩ ++ s : ByteArray).size = c.size + 5 + s.size := by
  rw [ByteArray.size_append, ByteArray.size_append, ByteArray.size_append, show (⟨#[32, 9, 37]⟩ : ByteArray).size = 3 from rfl, show (⟨#[10, 0]⟩ : ByteArray).size = 2 from rfl]
  omega

theorem next_err {l : List UInt8} {a : Int} (h : (Lx.nextV l a).1 ≠ 0) : (Lx.nextV l a).2 = Lx.zero := by
  unfold Lx.nextV at h ⊢
  split
  · rename_i h1
    rw [if_pos h1] at h
    split
    · rename_i h2; rw [if_pos h2] at h; exact absurd rfl h
    · rfl
  · rfl

set_option maxRecDepth 100000 in
set_option maxHeartbeats 8000000 in
theorem lexSpaces_any (s c : ByteArray) (w : World) (hm : HasMax w) :
    Calls Try.prog 6 #[.string s, .string c] w fun e w' => e = .returned (.bool true) ∧ Kept w w' := by
  have HM := Lib.hid hm
  clear hm
  by_cases hs : 500 < s.size
  · go_enter Try.func6, Try.ntmps6
    go_wp2_with fail
    refine (awake_any _ HM.out).mono ?_
    rintro e w1 ⟨rfl, hk1⟩
    go_wp2_with fail
    go_ret
    exact ⟨rfl, hk1⟩
  have hs' : s.size ≤ 500 := by omega
  clear hs
  by_cases hc : 200 < c.size
  · go_enter Try.func6, Try.ntmps6
    go_wp2_with fail
    refine (awake_any _ HM.out).mono ?_
    rintro e w1 ⟨rfl, hk1⟩
    go_wp2_with fail
    go_ret
    exact ⟨rfl, hk1⟩
  have hc' : c.size ≤ 200 := by omega
  clear hc
  go_enter Try.func6, Try.ntmps6
  go_wp2_with fail
  refine (awake_any _ HM.out).mono ?_
  rintro e w1 ⟨rfl, hk1⟩
  have HK1 := Lib.hid hk1
  clear hk1
  go_wp2_with fail
  go_loop [6] (fun i => ∃ k : Nat, k ≤ c.size ∧ i = .int .i64 k ∧ Hid (∀ (j : Nat) (h : j < c.size), j < k → c[j] ≠ 10 ∧ c[j] ≠ 13)) (fun i => c.size - (intOf i).toNat)
  case atStart => exact ⟨0, Nat.zero_le _, rfl, Lib.hid (fun j h hj => by omega)⟩
  case round =>
    obtain ⟨k, hk, rfl, HE⟩ := hrel
    by_cases hlt : k < c.size
    · by_cases h10 : c[k] = 10
      · have e1 := byte_is h10 10 rfl
        clear h10
        go_wp2_with fail
        go_ret
        exact ⟨rfl, HK1.out⟩
      · have e1 := byte_not h10 10 rfl
        by_cases h13 : c[k] = 13
        · have e2 := byte_is h13 13 rfl
          clear h10 h13
          go_wp2_with fail
          go_ret
          exact ⟨rfl, HK1.out⟩
        · have e2 := byte_not h13 13 rfl
          have HT := Lib.hid (show ∀ (j : Nat) (h : j < c.size), j < k + 1 → c[j] ≠ 10 ∧ c[j] ≠ 13 from fun j h hj => by
            by_cases hjk : j < k
            · exact HE.out j h hjk
            · obtain rfl : j = k := by omega
              exact ⟨h10, h13⟩)
          clear h10 h13
          go_wp2_with fail
          go_round
          case rel => exact ⟨k + 1, by omega, by go_num, HT⟩
          case measure => simp [intOf]; omega
    · obtain rfl : k = c.size := by omega
      have HT := Lib.hid (spaces_ahead c s (fun j h => HE.out j h h))
      obtain ⟨T, hT⟩ : ∃ T, T = Lx.nextV s.data.toList 0 := ⟨_, rfl⟩
      rw [← hT] at HT
      obtain ⟨U, hU⟩ : ∃ U, U = Lx.nextV ((⟨#[32, 9, 37]⟩ ++ c ++ ⟨#[10, 0]⟩ ++ s : ByteArray).data.toList) 0 := ⟨_, rfl⟩
      rw [← hU] at HT
      have HTT := Lib.hid hT
      have HUU := Lib.hid hU
      have HZ := Lib.hid (fun h : T.1 ≠ 0 => show T.2 = Lx.zero by rw [hT] at h ⊢; exact next_err h)
      clear hT hU
      go_wp2_with fail
      refine (Next_any s 0 _ (by omega) (HM.out.kept HK1.out) T HTT.out).mono ?_
      rintro e w2 ⟨rfl, hk2⟩
      have H2 := Lib.hid (show In w [] w2 from ⟨HK1.out.trans hk2, fun _ h => absurd h List.not_mem_nil⟩)
      clear hk2
      go_wp2_with fail
      have G2 := Lib.hid (In.fresh H2.out #[.int .i64 T.2.kind, .int .i64 T.2.f, .string ⟨T.2.s.toArray⟩, .bool T.2.whole, .int .i64 T.2.frm, .int .i64 T.2.to] 25)
      refine (Next_any _ 0 _ (by rw [ahead_size]; omega) (HM.out.kept G2.out.1) U HUU.out).mono ?_
      rintro e w3 ⟨rfl, hk3⟩
      have H3 := Lib.hid (G2.out.kept hk3)
      have B2 := Lib.hid (In.mem H3.out List.mem_cons_self)
      obtain ⟨a0, a1, a2, a3, a4, a5⟩ := B2.out.cells6
      have z2 : w2.heap.size < w3.heap.size := B2.out.lt
      clear hk3
      by_cases he : T.1 = 0
      · have hU : U = (0, { T.2 with frm := T.2.frm + (c.size + 5), to := T.2.to + (c.size + 5) }) := by rw [HT.out, if_pos he]
        subst hU
        obtain ⟨_, _, _, b1, _, b2, _⟩ := Lx.next_bd s.data.toList 0 (by rw [← HTT.out]; exact he)
        rw [← HTT.out, show s.data.toList.length = s.size by simp] at b1 b2
        rw [he]
        have HE3 := Lib.hid (H3.out.1.alloc #[.int .i64 T.2.kind, .int .i64 T.2.f, .string ⟨T.2.s.toArray⟩, .bool T.2.whole, .int .i64 (T.2.frm + (c.size + 5) : Nat), .int .i64 (T.2.to + (c.size + 5) : Nat)] 25)
        have c1 : (T.2.frm : Int) ≤ 500 := by omega
        have c2 : (T.2.to : Int) ≤ 500 := by omega
        have c3 : ((T.2.frm : Int) + (3 + c.size + 2) == (T.2.frm : Int) + (c.size + 5)) = true := by rw [beq_iff_eq]; omega
        have c4 : ((T.2.to : Int) + (3 + c.size + 2) == (T.2.to : Int) + (c.size + 5)) = true := by rw [beq_iff_eq]; omega
        clear b1 b2
        go_wp2_with fail
        go_ret
        exact ⟨rfl, HE3.out⟩
      · have hU : U = T := by rw [HT.out, if_neg he]
        subst hU
        have hz := HZ.out he
        have hne : (U.1 != 0) = true := by simpa using he
        have hto : U.2.to = 0 := by rw [hz]; rfl
        have hto2 : (U.2.to : Int) = 0 := by rw [hto]; rfl
        clear he hz hto
        go_wp2_with fail
        go_ret
        exact ⟨rfl, H3.out.1.alloc _ _⟩

end Go.Proofs.Ytgijgklojlfihaa
