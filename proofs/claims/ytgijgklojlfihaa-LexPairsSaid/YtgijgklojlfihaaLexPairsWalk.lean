/-
  LexPairs: parentheses that pair are a part of a Text.
-/
import Derived.Test.YtgijgklojlfihaaLexAwake
import Derived.Test.YtgijgklojlfihaaLexBackMath
namespace Go.Proofs.Ytgijgklojlfihaa
open Go.RowKit

theorem of_list' (s : ByteArray) : ∃ l : List UInt8, s = ⟨l.toArray⟩ := ⟨s.data.toList, by simp⟩
theorem cat_wrap (l : List UInt8) (k : Nat) : (⟨#[40]⟩ ++ ⟨(Lx.wrap l k).toArray⟩ ++ ⟨#[41]⟩ : ByteArray) = ⟨(Lx.wrap l (k + 1)).toArray⟩ := by
  apply ByteArray.ext
  simp [Lx.wrap]
theorem at_list (l : List UInt8) (k : Nat) (h : k < l.length) : (⟨l.toArray⟩ : ByteArray)[k]'(by show k < l.toArray.size; simpa using h) = l[k] := by
  show l.toArray[k]'_ = l[k]
  simp

theorem and_31 (n : Int) : ∃ k : Nat, bits BinOp.and IntKind.i64 n 31 = (k : Int) ∧ k ≤ 31 := by
  have hle : (BitVec.ofInt 64 n &&& BitVec.ofInt 64 31).toNat ≤ 31 := by
    rw [BitVec.toNat_and]
    exact Nat.and_le_right (n := (BitVec.ofInt 64 n).toNat) (m := 31)
  refine ⟨(BitVec.ofInt 64 n &&& BitVec.ofInt 64 31).toNat, ?_, hle⟩
  show IntKind.i64.wrap ((BitVec.ofInt 64 n &&& BitVec.ofInt 64 31).toNat : Int) = _
  exact IntWalk.i64_in _ (by omega)

set_option maxRecDepth 100000 in
set_option maxHeartbeats 8000000 in
theorem lexPairs_any (n : Int) (s : ByteArray) (w : World) (hm : HasMax w) :
    Calls Try.prog 9 #[.int .i64 n, .string s] w fun e w' => e = .returned (.bool true) ∧ Kept w w' := by
  have HM := Lib.hid hm
  clear hm
  by_cases hs : 200 < s.size
  · go_enter Try.func9, Try.ntmps9
    go_wp2_with fail
    refine (awake_any _ HM.out).mono ?_
    rintro e w1 ⟨rfl, hk1⟩
    go_wp2_with fail
    go_ret
    exact ⟨rfl, hk1⟩
  have hs' : s.size ≤ 200 := by omega
  clear hs
  go_enter Try.func9, Try.ntmps9
  go_wp2_with fail
  refine (awake_any _ HM.out).mono ?_
  rintro e w1 ⟨rfl, hk1⟩
  have HK1 := Lib.hid hk1
  clear hk1
  go_wp2_with fail
  go_loop [6] (fun i => ∃ k : Nat, k ≤ s.size ∧ i = .int .i64 k ∧ Hid (∀ (j : Nat) (h : j < s.size), j < k → Lx.plainB s[j])) (fun i => s.size - (intOf i).toNat)
  case atStart => exact ⟨0, Nat.zero_le _, rfl, Lib.hid (fun j h hj => by omega)⟩
  case round =>
    obtain ⟨k, hk, rfl, HE⟩ := hrel
    by_cases hlt : k < s.size
    · by_cases h10 : (s[k].toNat : Int) < 97
      · go_wp2_with fail
        go_ret
        exact ⟨rfl, HK1.out⟩
      · by_cases h13 : 122 < (s[k].toNat : Int)
        · go_wp2_with fail
          go_ret
          exact ⟨rfl, HK1.out⟩
        · have HT := Lib.hid (show ∀ (j : Nat) (h : j < s.size), j < k + 1 → Lx.plainB s[j] from fun j h hj => by
            by_cases hjk : j < k
            · exact HE.out j h hjk
            · obtain rfl : j = k := by omega
              have e : ∀ d : UInt8, s[j] = d → d.toNat < 97 ∨ 122 < d.toNat → False := fun d hd hh => by rw [hd] at h10 h13; omega
              exact ⟨fun hd => e _ hd (by decide), fun hd => e _ hd (by decide), fun hd => e _ hd (by decide), fun hd => e _ hd (by decide)⟩)
          go_wp2_with fail
          go_round
          case rel => exact ⟨k + 1, by omega, by go_num, HT⟩
          case measure => simp [intOf]; omega
    · obtain rfl : k = s.size := by omega
      have HP := Lib.hid (fun j h => HE.out j h h)
      clear HE hlt hk
      go_wp2_with fail
      obtain ⟨K, hK, hK31⟩ := and_31 n
      rw [hK]
      clear hK
      obtain ⟨l, rfl⟩ := of_list' s
      have hl : l.length ≤ 200 := by simpa [ByteArray.size] using hs'
      have HPL := Lib.hid (show ∀ b ∈ l, Lx.plainB b by
        intro b hb
        obtain ⟨j, hj, rfl⟩ := List.getElem_of_mem hb
        have := HP.out j (by simpa [ByteArray.size] using hj)
        rwa [at_list] at this)
      go_loop [8, 9] (fun v i => ∃ k : Nat, k ≤ K ∧ i = .int .i64 k ∧ v = .string ⟨(Lx.wrap l k).toArray⟩) (fun _ i => K - (intOf i).toNat)
      case atStart => exact ⟨0, Nat.zero_le _, rfl, rfl⟩
      case round =>
        obtain ⟨k, hk, rfl, rfl⟩ := hrel
        by_cases hlt : k < K
        · have HW := Lib.hid (cat_wrap l k)
          have HL := Lib.hid (Lx.wrap_len l k)
          have hwl : (Lx.wrap l k).length ≤ 300 := by rw [Lx.wrap_len]; omega
          go_wp2_with fail
          go_round
          case rel => exact ⟨k + 1, by omega, by go_num, by rw [HW.out]⟩
          case measure => simp [intOf]; omega
        · obtain rfl : k = K := by omega
          obtain ⟨q, hq⟩ : ∃ q, q = Lx.wrap l k := ⟨_, rfl⟩
          have hql : q.length ≤ 300 := by rw [hq, Lx.wrap_len]; omega
          have HN1 := Lib.hid (show ((0 : Int), (⟨3, 0, q, false, 0, q.length + 2⟩ : Lx.Tok)) = Lx.nextV (⟨#[40]⟩ ++ ⟨q.toArray⟩ ++ ⟨#[41, 114, 101, 115, 116]⟩ : ByteArray).data.toList 0 by
            rw [show (⟨#[40]⟩ ++ ⟨q.toArray⟩ ++ ⟨#[41, 114, 101, 115, 116]⟩ : ByteArray).data.toList = 40 :: (q ++ (41 :: [114, 101, 115, 116])) by simp, hq, Lx.next_pairs l HPL.out])
          have HN2 := Lib.hid (show ((4 : Int), Lx.zero) = Lx.nextV (⟨#[40, 40]⟩ ++ ⟨q.toArray⟩ ++ ⟨#[41]⟩ : ByteArray).data.toList 0 by
            rw [show (⟨#[40, 40]⟩ ++ ⟨q.toArray⟩ ++ ⟨#[41]⟩ : ByteArray).data.toList = 40 :: 40 :: (q ++ [41]) by simp, hq, Lx.next_short l HPL.out])
          have HN3 := Lib.hid (show ((0 : Int), (⟨3, 0, q, false, 0, q.length + 2⟩ : Lx.Tok)) = Lx.nextV (⟨#[40]⟩ ++ ⟨q.toArray⟩ ++ ⟨#[41, 41]⟩ : ByteArray).data.toList 0 by
            rw [show (⟨#[40]⟩ ++ ⟨q.toArray⟩ ++ ⟨#[41, 41]⟩ : ByteArray).data.toList = 40 :: (q ++ (41 :: [41])) by simp, hq, Lx.next_pairs l HPL.out])
          have Z1 := Lib.hid (show (⟨#[40]⟩ ++ ⟨q.toArray⟩ ++ ⟨#[41, 114, 101, 115, 116]⟩ : ByteArray).size ≤ 4294967295 by simp [ByteArray.size]; omega)
          have Z2 := Lib.hid (show (⟨#[40, 40]⟩ ++ ⟨q.toArray⟩ ++ ⟨#[41]⟩ : ByteArray).size ≤ 4294967295 by simp [ByteArray.size]; omega)
          have Z3 := Lib.hid (show (⟨#[40]⟩ ++ ⟨q.toArray⟩ ++ ⟨#[41, 41]⟩ : ByteArray).size ≤ 4294967295 by simp [ByteArray.size]; omega)
          have HM1 := Lib.hid (HM.out.kept HK1.out)
          rw [← hq]
          clear hq
          go_wp2_with fail
          (with_reducible refine (Next_any _ 0 _ Z1.out HM1.out _ HN1.out).mono ?_)
          rintro e w4 ⟨rfl, hk4⟩
          have H4 := Lib.hid (show In w [] w4 from ⟨HK1.out.trans hk4, fun _ h => absurd h List.not_mem_nil⟩)
          clear hk4
          simp only []
          go_wp2_with fail
          have G4 := Lib.hid (In.fresh H4.out #[.int .i64 3, .int .i64 0, .string ⟨q.toArray⟩, .bool false, .int .i64 0, .int .i64 ((q.length : Int) + 2)] 25)
          have HM4 := Lib.hid (HM.out.kept G4.out.1)
          (with_reducible refine (Next_any _ 0 _ Z2.out HM4.out _ HN2.out).mono ?_)
          rintro e w5 ⟨rfl, hk5⟩
          have H5 := Lib.hid (G4.out.kept hk5)
          clear hk5
          simp only [Lx.zero]
          go_wp2_with fail
          have G5 := Lib.hid (In.fresh H5.out #[.int .i64 0, .int .i64 0, .string ⟨#[]⟩, .bool false, .int .i64 0, .int .i64 0] 25)
          have HM5 := Lib.hid (HM.out.kept G5.out.1)
          (with_reducible refine (Next_any _ 0 _ Z3.out HM5.out _ HN3.out).mono ?_)
          rintro e w6 ⟨rfl, hk6⟩
          have H6 := Lib.hid (G5.out.kept hk6)
          have B4 := Lib.hid (In.mem H6.out (List.mem_cons_of_mem _ List.mem_cons_self))
          obtain ⟨a0, a1, a2, a3, a4, a5⟩ := B4.out.cells6
          have z4 : w4.heap.size < w6.heap.size := B4.out.lt
          clear hk6
          simp only []
          go_wp2_with fail
          go_ret
          exact ⟨rfl, H6.out.1.alloc _ _⟩

end Go.Proofs.Ytgijgklojlfihaa
