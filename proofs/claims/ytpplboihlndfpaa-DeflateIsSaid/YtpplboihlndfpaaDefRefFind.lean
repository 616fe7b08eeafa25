/-
  The reference's find: the symbol of a number, and its bits more.
-/
import Derived.Test.YtpplboihlndfpaaDefExpand
import Derived.Test.YtpplboihlndfpaaDefBitsMath
namespace Go.Proofs.Ytpplboihlndfpaa
open Go.RowKit Ix Dx
set_option linter.unusedSimpArgs false
set_option linter.unusedVariables false
attribute [local go_sem ↓] run_greatest3

/-- Where the k-th span begins. -/
def stV (g : Nat) : Nat → Nat
  | 0 => 0
  | k + 1 => stV g k + 2 ^ (k / g - 1)
/-- The span of a number. -/
structure InSpan (n g K : Nat) : Prop where
  low : ∀ k, k < K → stV g (k + 1) ≤ n
  high : n < stV g (K + 1)
theorem InSpan.le {n g K : Nat} (h : InSpan n g K) : ∀ k, k ≤ K → stV g k ≤ n
  | 0, _ => Nat.zero_le _
  | k + 1, hk => h.low k hk
def spanOK (g n : Nat) : Bool := (List.range (spnV n g)).all (fun k => decide (stV g (k + 1) ≤ n)) && (decide (n < stV g (spnV n g + 1)) && (spnV n g / g - 1 == widV n g && numBits (n - stV g (spnV n g)) (widV n g) == numBits n (widV n g)))
theorem spanOK_is {g n : Nat} (h : spanOK g n = true) : InSpan n g (spnV n g) ∧ spnV n g / g - 1 = widV n g ∧ numBits (n - stV g (spnV n g)) (widV n g) = numBits n (widV n g) := by
  unfold spanOK at h
  simp only [Bool.and_eq_true, beq_iff_eq, decide_eq_true_eq] at h
  obtain ⟨h1, h2, h3, h4⟩ := h
  exact ⟨⟨fun k hk => of_decide_eq_true (List.all_eq_true.1 h1 k (List.mem_range.2 hk)), h2⟩, h3, h4⟩
theorem span4 (n : Nat) (h : n < 256) : spanOK 4 n = true := by
  have key : (List.range 256).all (fun n => spanOK 4 n) = true := by kernel_rfl
  exact List.all_eq_true.1 key n (List.mem_range.2 h)
theorem span2 (n : Nat) (h : n < 600) : spanOK 2 n = true := by
  have key : (List.range 600).all (fun n => spanOK 2 n) = true := by kernel_rfl
  exact List.all_eq_true.1 key n (List.mem_range.2 h)

set_option maxRecDepth 100000 in
set_option maxHeartbeats 1000000 in
theorem find34 (v n K : Nat) (hv : v = 3 + n) (hn : n ≤ 100000) (hK : K ≤ 40) (hF : InSpan n 4 K) (w : World) :
    Calls Try.prog 23 #[.int .i64 v, .int .i64 3, .int .i64 4] w fun e w' => e = .returned (.tuple #[.int .i64 K, .int .i64 ((n - stV 4 K : Nat) : Int), .int .i64 ((K / 4 - 1 : Nat) : Int)]) ∧ Kept w w' := by
  have HF := Lib.hid hF
  have HV := Lib.hid hv
  have hvb : v ≤ 100010 := by omega
  clear hF hv
  go_enter Try.func23, Try.ntmps23
  go_wp2_with fail
  go_loopg [9, 10] K (fun m x y wr => ∃ (k s : Nat), m = K - k ∧ k ≤ K ∧ x = .int .i64 s ∧ y = .int .i64 k ∧ Hid (s = 3 + stV 4 k) ∧ s ≤ v ∧ Kept w wr)
  case atStart => exact ⟨0, 3, rfl, Nat.zero_le _, rfl, rfl, Lib.hid rfl, by have := HV.out; omega, Kept.refl w⟩
  case round =>
    obtain ⟨k, s, hm, hk, rfl, rfl, HS, hsv, hkw⟩ := hrel
    have HKW := Lib.hid hkw
    clear hkw
    obtain ⟨q, hq⟩ : ∃ q, q = k / 4 := ⟨_, rfl⟩
    obtain ⟨nk, hnk⟩ : ∃ nk, nk = q - 1 := ⟨_, rfl⟩
    obtain ⟨p2, hp2⟩ : ∃ p2, p2 = 2 ^ nk := ⟨_, rfl⟩
    have hnk14 : nk ≤ 20 := by omega
    have hp3 : p2 ≤ 1048576 := by rw [hp2]; exact (show 2 ^ nk ≤ 2 ^ 20 from Nat.pow_le_pow_right (by decide) hnk14)
    have hstep : stV 4 (k + 1) = stV 4 k + p2 := by rw [stV, hp2, hnk, hq]
    have t1 : (k : Int) / 4 = (q : Int) := by omega
    have t1' : (k : Int).tdiv 4 = (q : Int) := by rw [Int.tdiv_eq_ediv_of_nonneg (by omega)]; exact t1
    have t2 : max (0 : Int) ((q : Int) - 1) = (nk : Int) := by omega
    have t3 : IntKind.i64.wrap ((q : Int) - 1) = (q : Int) - 1 := IntWalk.i64_in _ (by omega)
    have t4 : min nk 64 = nk := by omega
    have t5 : (2 : Int) ^ nk = (p2 : Int) := by rw [hp2]; simp
    have t6 : IntKind.i64.wrap (p2 : Int) = (p2 : Int) := IntWalk.i64_in _ (by omega)
    have t7 : ¬ (nk : Int) < 0 := by omega
    obtain ⟨e, he⟩ : ∃ e, e = s + p2 := ⟨_, rfl⟩
    have t8 : (s : Int) + (p2 : Int) = (e : Int) := by omega
    have t9 : IntKind.i64.wrap (e : Int) = (e : Int) := IntWalk.i64_in _ (by omega)
    by_cases hlt : v < e
    · have hkK : k = K := by
        by_cases c : k < K
        · have := HF.out.low k c
          have h1 := HS.out
          have h2 := HV.out
          omega
        · omega
      have i1 : (v : Int) < (e : Int) := by omega
      obtain ⟨x, hx⟩ : ∃ x, x = v - s := ⟨_, rfl⟩
      have u1 : (v : Int) - (s : Int) = (x : Int) := by omega
      have u2 : IntKind.i64.wrap (x : Int) = (x : Int) := IntWalk.i64_in _ (by omega)
      have HX := Lib.hid (show x = n - stV 4 K by
        have h1 := HS.out
        have h2 := HV.out
        have h3 := HF.out.le k hk
        rw [← hkK]; omega)
      have HNK := Lib.hid (show nk = K / 4 - 1 by rw [← hkK, hnk, hq])
      have HKK := Lib.hid hkK
      clear hx hq hnk hp2 hstep he hkK
      go_wp2_with fail
      refine bodyPost_ret (v := .tuple #[.int .i64 k, .int .i64 x, .int .i64 nk]) (by simp [results, Try.results23, go_sem]) rfl ?_
      exact ⟨by rw [HX.out, HNK.out, HKK.out], HKW.out⟩
    · have hkK : k < K := by
        by_cases c : k < K
        · exact c
        · have hkk : k = K := by omega
          have := HF.out.high
          have h1 := HS.out
          have h2 := HV.out
          rw [← hkk] at this
          omega
      have i1 : ¬ (v : Int) < (e : Int) := by omega
      have HS2 := Lib.hid (show e = 3 + stV 4 (k + 1) by have h1 := HS.out; omega)
      clear hq hnk hp2 hstep he
      go_wp2_with fail
      go_roundg (K - (k + 1))
      case measure => omega
      case rel => exact ⟨k + 1, e, rfl, by omega, rfl, by go_num, HS2, by omega, HKW.out⟩

set_option maxRecDepth 100000 in
set_option maxHeartbeats 1000000 in
theorem find12 (v n K : Nat) (hv : v = 1 + n) (hn : n ≤ 100000) (hK : K ≤ 40) (hF : InSpan n 2 K) (w : World) :
    Calls Try.prog 23 #[.int .i64 v, .int .i64 1, .int .i64 2] w fun e w' => e = .returned (.tuple #[.int .i64 K, .int .i64 ((n - stV 2 K : Nat) : Int), .int .i64 ((K / 2 - 1 : Nat) : Int)]) ∧ Kept w w' := by
  have HF := Lib.hid hF
  have HV := Lib.hid hv
  have hvb : v ≤ 100010 := by omega
  clear hF hv
  go_enter Try.func23, Try.ntmps23
  go_wp2_with fail
  go_loopg [9, 10] K (fun m x y wr => ∃ (k s : Nat), m = K - k ∧ k ≤ K ∧ x = .int .i64 s ∧ y = .int .i64 k ∧ Hid (s = 1 + stV 2 k) ∧ s ≤ v ∧ Kept w wr)
  case atStart => exact ⟨0, 1, rfl, Nat.zero_le _, rfl, rfl, Lib.hid rfl, by have := HV.out; omega, Kept.refl w⟩
  case round =>
    obtain ⟨k, s, hm, hk, rfl, rfl, HS, hsv, hkw⟩ := hrel
    have HKW := Lib.hid hkw
    clear hkw
    obtain ⟨q, hq⟩ : ∃ q, q = k / 2 := ⟨_, rfl⟩
    obtain ⟨nk, hnk⟩ : ∃ nk, nk = q - 1 := ⟨_, rfl⟩
    obtain ⟨p2, hp2⟩ : ∃ p2, p2 = 2 ^ nk := ⟨_, rfl⟩
    have hnk14 : nk ≤ 20 := by omega
    have hp3 : p2 ≤ 1048576 := by rw [hp2]; exact (show 2 ^ nk ≤ 2 ^ 20 from Nat.pow_le_pow_right (by decide) hnk14)
    have hstep : stV 2 (k + 1) = stV 2 k + p2 := by rw [stV, hp2, hnk, hq]
    have t1 : (k : Int) / 2 = (q : Int) := by omega
    have t1' : (k : Int).tdiv 2 = (q : Int) := by rw [Int.tdiv_eq_ediv_of_nonneg (by omega)]; exact t1
    have t2 : max (0 : Int) ((q : Int) - 1) = (nk : Int) := by omega
    have t3 : IntKind.i64.wrap ((q : Int) - 1) = (q : Int) - 1 := IntWalk.i64_in _ (by omega)
    have t4 : min nk 64 = nk := by omega
    have t5 : (2 : Int) ^ nk = (p2 : Int) := by rw [hp2]; simp
    have t6 : IntKind.i64.wrap (p2 : Int) = (p2 : Int) := IntWalk.i64_in _ (by omega)
    have t7 : ¬ (nk : Int) < 0 := by omega
    obtain ⟨e, he⟩ : ∃ e, e = s + p2 := ⟨_, rfl⟩
    have t8 : (s : Int) + (p2 : Int) = (e : Int) := by omega
    have t9 : IntKind.i64.wrap (e : Int) = (e : Int) := IntWalk.i64_in _ (by omega)
    by_cases hlt : v < e
    · have hkK : k = K := by
        by_cases c : k < K
        · have := HF.out.low k c
          have h1 := HS.out
          have h2 := HV.out
          omega
        · omega
      have i1 : (v : Int) < (e : Int) := by omega
      obtain ⟨x, hx⟩ : ∃ x, x = v - s := ⟨_, rfl⟩
      have u1 : (v : Int) - (s : Int) = (x : Int) := by omega
      have u2 : IntKind.i64.wrap (x : Int) = (x : Int) := IntWalk.i64_in _ (by omega)
      have HX := Lib.hid (show x = n - stV 2 K by
        have h1 := HS.out
        have h2 := HV.out
        have h3 := HF.out.le k hk
        rw [← hkK]; omega)
      have HNK := Lib.hid (show nk = K / 2 - 1 by rw [← hkK, hnk, hq])
      have HKK := Lib.hid hkK
      clear hx hq hnk hp2 hstep he hkK
      go_wp2_with fail
      refine bodyPost_ret (v := .tuple #[.int .i64 k, .int .i64 x, .int .i64 nk]) (by simp [results, Try.results23, go_sem]) rfl ?_
      exact ⟨by rw [HX.out, HNK.out, HKK.out], HKW.out⟩
    · have hkK : k < K := by
        by_cases c : k < K
        · exact c
        · have hkk : k = K := by omega
          have := HF.out.high
          have h1 := HS.out
          have h2 := HV.out
          rw [← hkk] at this
          omega
      have i1 : ¬ (v : Int) < (e : Int) := by omega
      have HS2 := Lib.hid (show e = 1 + stV 2 (k + 1) by have h1 := HS.out; omega)
      clear hq hnk hp2 hstep he
      go_wp2_with fail
      go_roundg (K - (k + 1))
      case measure => omega
      case rel => exact ⟨k + 1, e, rfl, by omega, rfl, by go_num, HS2, by omega, HKW.out⟩

end Go.Proofs.Ytpplboihlndfpaa
