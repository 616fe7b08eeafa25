/-
  What the document's answers Quote and NameOf of layer 3 are.
-/
import Derived.Test.YtgijgklojlfihaaLexRefBytes
namespace Go.Proofs.Ytgijgklojlfihaa
open Go.RowKit

theorem extract_one (s : ByteArray) (k : Nat) (h : k < s.size) : s.extract k (k + 1) = ⟨#[s[k]]⟩ := by
  apply ByteArray.ext
  rw [ByteArray.data_extract]
  apply Array.ext'
  have h' : k < s.data.size := h
  simp [Array.toList_extract, List.extract_eq_take_drop, List.take_one, List.head?_drop]
  rw [Array.getElem?_eq_getElem h']; rfl

def ctl : List UInt8 := [10, 13, 9, 8, 12]
def lets : List UInt8 := [110, 114, 116, 98, 102]
def letAt (j : Nat) : UInt8 := lets.getD j 0
theorem lets_extract {j : Nat} (h : j < 5) : (⟨#[110, 114, 116, 98, 102]⟩ : ByteArray).extract j (j + 1) = ⟨#[letAt j]⟩ := by
  have : ∀ m : Fin 5, (⟨#[110, 114, 116, 98, 102]⟩ : ByteArray).extract m.val (m.val + 1) = ⟨#[letAt m.val]⟩ := by decide
  exact this ⟨j, h⟩
theorem oct_extract {j : Nat} (h : j < 8) : (⟨#[48, 49, 50, 51, 52, 53, 54, 55]⟩ : ByteArray).extract j (j + 1) = ⟨#[Lx.octD j]⟩ := by
  have : ∀ m : Fin 8, (⟨#[48, 49, 50, 51, 52, 53, 54, 55]⟩ : ByteArray).extract m.val (m.val + 1) = ⟨#[Lx.octD m.val]⟩ := by decide
  exact this ⟨j, h⟩
theorem hex_extract {j : Nat} (h : j < 16) : (⟨#[48, 49, 50, 51, 52, 53, 54, 55, 56, 57, 65, 66, 67, 68, 69, 70]⟩ : ByteArray).extract j (j + 1) = ⟨#[Lx.hexD j]⟩ := by
  have : ∀ m : Fin 16, (⟨#[48, 49, 50, 51, 52, 53, 54, 55, 56, 57, 65, 66, 67, 68, 69, 70]⟩ : ByteArray).extract m.val (m.val + 1) = ⟨#[Lx.hexD m.val]⟩ := by decide
  exact this ⟨j, h⟩
theorem ctl_hit {c : UInt8} {j : Nat} (h : j < 5) (hc : ctl.getD j 0 = c) : Lx.quoteB c = [92, letAt j] := by
  have : ∀ m : Fin 5, Lx.quoteB (ctl.getD m.val 0) = [92, letAt m.val] := by decide
  rw [← hc]; exact this ⟨j, h⟩
theorem ctl_miss {c : UInt8} (h : ∀ j, j < 5 → ctl.getD j 0 ≠ c) :
    Lx.quoteB c = if c = 40 ∨ c = 41 ∨ c = 92 then [92, c] else if 32 ≤ c.toNat ∧ c.toNat ≤ 126 then [c] else [92, Lx.octD (c.toNat / 64), Lx.octD (c.toNat / 8 % 8), Lx.octD (c.toNat % 8)] := by
  have := Lx.byte_all (fun c => decide ((∀ j : Fin 5, ctl.getD j.val 0 ≠ c) → Lx.quoteB c = if c = 40 ∨ c = 41 ∨ c = 92 then [92, c] else if 32 ≤ c.toNat ∧ c.toNat ≤ 126 then [c] else [92, Lx.octD (c.toNat / 64), Lx.octD (c.toNat / 8 % 8), Lx.octD (c.toNat % 8)])) (by kernel_rfl) c
  exact of_decide_eq_true this (fun j => h j.val j.isLt)
theorem ctl_at {j : Nat} (h : j < 5) (h' : j < (⟨#[10, 13, 9, 8, 12]⟩ : ByteArray).size) : (⟨#[10, 13, 9, 8, 12]⟩ : ByteArray)[j] = ctl.getD j 0 := by
  have : ∀ m : Fin 5, (⟨#[10, 13, 9, 8, 12]⟩ : ByteArray)[m.val]'(m.isLt) = ctl.getD m.val 0 := by decide
  exact this ⟨j, h⟩

theorem rquote_take (s : ByteArray) (k : Nat) (h : k < s.size) : 40 :: (s.data.toList.take (k + 1)).flatMap Lx.quoteB = (40 :: (s.data.toList.take k).flatMap Lx.quoteB) ++ Lx.quoteB s[k] := by
  rw [List.take_succ_eq_append_getElem (by simpa using h), List.flatMap_append]
  simp
  rfl
theorem ret_str {a b : ByteArray} (h : a = b) : Ending.returned (.string a) = .returned (.string b) := by rw [h]
theorem cat2 {O : ByteArray} {l : List UInt8} (h : O = ⟨l.toArray⟩) (a b : UInt8) : O ++ ⟨#[a]⟩ ++ ⟨#[b]⟩ = ⟨(l ++ [a, b]).toArray⟩ := by
  subst h; apply ByteArray.ext; simp
theorem cat1 {O : ByteArray} {l : List UInt8} (h : O = ⟨l.toArray⟩) (a : UInt8) : O ++ ⟨#[a]⟩ = ⟨(l ++ [a]).toArray⟩ := by
  subst h; apply ByteArray.ext; simp
theorem cat3 {O : ByteArray} {l : List UInt8} (h : O = ⟨l.toArray⟩) (a b c : UInt8) : O ++ ⟨#[a]⟩ ++ ⟨#[b]⟩ ++ ⟨#[c]⟩ = ⟨(l ++ [a, b, c]).toArray⟩ := by
  subst h; apply ByteArray.ext; simp
theorem cat4 {O : ByteArray} {l : List UInt8} (h : O = ⟨l.toArray⟩) (a b c d : UInt8) : O ++ ⟨#[a]⟩ ++ ⟨#[b]⟩ ++ ⟨#[c]⟩ ++ ⟨#[d]⟩ = ⟨(l ++ [a, b, c, d]).toArray⟩ := by
  subst h; apply ByteArray.ext; simp
theorem r_len (f : UInt8 → List UInt8) (h : ∀ c, (f c).length ≤ 4) : ∀ l : List UInt8, (l.flatMap f).length ≤ 4 * l.length
  | [] => by simp
  | a :: l => by have := h a; have := r_len f h l; simp only [List.flatMap_cons, List.length_append, List.length_cons]; omega
theorem rquote_len (s : ByteArray) (k : Nat) : (40 :: (s.data.toList.take k).flatMap Lx.quoteB).length ≤ 4 * s.size + 1 := by
  have h0 : ∀ c, (Lx.quoteB c).length ≤ 4 := fun c => of_decide_eq_true (Lx.byte_all (fun c => decide ((Lx.quoteB c).length ≤ 4)) (by kernel_rfl) c)
  have h1 := r_len Lx.quoteB h0 (s.data.toList.take k)
  have h2 : (s.data.toList.take k).length ≤ s.size := by simp; omega
  simp only [List.length_cons]; omega
theorem rname_take (s : ByteArray) (k : Nat) (h : k < s.size) : 47 :: (s.data.toList.take (k + 1)).flatMap Lx.nameB = (47 :: (s.data.toList.take k).flatMap Lx.nameB) ++ Lx.nameB s[k] := by
  rw [List.take_succ_eq_append_getElem (by simpa using h), List.flatMap_append]
  simp
  rfl
theorem rname_len (s : ByteArray) (k : Nat) : (47 :: (s.data.toList.take k).flatMap Lx.nameB).length ≤ 4 * s.size + 1 := by
  have h0 : ∀ c, (Lx.nameB c).length ≤ 4 := fun c => of_decide_eq_true (Lx.byte_all (fun c => decide ((Lx.nameB c).length ≤ 4)) (by kernel_rfl) c)
  have h1 := r_len Lx.nameB h0 (s.data.toList.take k)
  have h2 : (s.data.toList.take k).length ≤ s.size := by simp; omega
  simp only [List.length_cons]; omega

set_option maxRecDepth 100000 in
set_option maxHeartbeats 8000000 in
theorem RQuote_any (s : ByteArray) (w : World) (hs : s.size ≤ 4294967296) :
    Calls Try.prog 22 #[.string s] w fun e w' => e = .returned (.string ⟨(Lx.quoteV s.data.toList).toArray⟩) ∧ Kept w w' := by
  go_enter Try.func22, Try.ntmps22
  go_wp2_with fail
  go_loopg [3, 4] s.size (fun n v i wr => ∃ (k : Nat) (O : ByteArray), n = s.size - k ∧ k ≤ s.size ∧ i = .int .i64 k ∧ v = .string O ∧ Hid (O = ⟨(40 :: (s.data.toList.take k).flatMap Lx.quoteB).toArray⟩) ∧ Kept w wr)
  case atStart => exact ⟨0, _, rfl, Nat.zero_le _, rfl, rfl, Lib.hid rfl, Kept.refl w⟩
  case round =>
    obtain ⟨k, O, hn, hkl, rfl, rfl, HO, hk⟩ := hrel
    have HK := Lib.hid hk
    have hOl : O.size ≤ 17179869185 := by
      rw [HO.out]
      have := rquote_len s k
      show (List.toArray _).size ≤ _
      simp only [List.size_toArray]; omega
    clear hk
    by_cases hlt : k < s.size
    · have HT := Lib.hid (rquote_take s k hlt)
      have HX := extract_one s k hlt
      go_wp2_with fail
      go_loopg [6] 5 (fun n i w2 => ∃ j : Nat, n = 5 - j ∧ j ≤ 5 ∧ i = .int .i64 j ∧ w2 = wr ∧ Hid (∀ i, i < j → ctl.getD i 0 ≠ s[k]))
      case atStart => exact ⟨0, rfl, by omega, rfl, rfl, Lib.hid (fun i hi => by omega)⟩
      case round =>
        obtain ⟨j, hn2, hj, rfl, rfl, HE⟩ := hrel
        by_cases hj5 : j < 5
        · have hz : j < (⟨#[10, 13, 9, 8, 12]⟩ : ByteArray).size := hj5
          have HC := Lib.hid (ctl_at hj5 hz)
          by_cases he : (⟨#[10, 13, 9, 8, 12]⟩ : ByteArray)[j] = s[k]
          · have e1 : ((((⟨#[10, 13, 9, 8, 12]⟩ : ByteArray)[j]).toNat : Int) != (s[k].toNat : Int)) = false := by rw [he]; first | done | simp
            have HQ := Lib.hid (ctl_hit (c := s[k]) hj5 (by rw [← HC.out]; exact he))
            have HL := lets_extract hj5
            clear he
            go_wp2_with fail
            go_roundg (s.size - (k + 1))
            case measure => omega
            case rel => exact ⟨k + 1, _, rfl, by omega, by go_num, rfl, Lib.hid (by rw [cat2 HO.out, HT.out, HQ.out]), HK.out⟩
          · have e1 : ((((⟨#[10, 13, 9, 8, 12]⟩ : ByteArray)[j]).toNat : Int) != (s[k].toNat : Int)) = true := by
              simp only [bne_iff_ne, ne_eq]
              intro h; exact he (UInt8.toNat_inj.1 (by omega))
            have HT2 := Lib.hid (show ∀ i, i < j + 1 → ctl.getD i 0 ≠ s[k] from fun i hi => by
              by_cases hij : i < j
              · exact HE.out i hij
              · obtain rfl : i = j := by omega
                rw [← HC.out]; exact he)
            clear he
            go_wp2_with fail
            go_roundg (5 - (j + 1))
            case measure => omega
            case rel => exact ⟨j + 1, rfl, by omega, by go_num, rfl, HT2⟩
        · obtain rfl : j = 5 := by omega
          have hm := ctl_miss HE.out
          by_cases h3 : s[k] = 40 ∨ s[k] = 41 ∨ s[k] = 92
          · rw [if_pos h3] at hm
            have HQ := Lib.hid hm
            clear hm
            have hv : (s[k].toNat : Int) = 40 ∨ (s[k].toNat : Int) = 41 ∨ (s[k].toNat : Int) = 92 := by
              rcases h3 with h | h | h
              · exact .inl (by rw [h]; rfl)
              · exact .inr (.inl (by rw [h]; rfl))
              · exact .inr (.inr (by rw [h]; rfl))
            clear h3
            rcases hv with hv | hv | hv
            all_goals
              go_wp2_with fail
              go_roundg (s.size - (k + 1))
              case measure => omega
              case rel => exact ⟨k + 1, _, rfl, by omega, by go_num, rfl, Lib.hid (by rw [cat2 HO.out, HT.out, HQ.out]), HK.out⟩
          rw [if_neg h3] at hm
          have e40 : ((s[k].toNat : Int) == 40) = false := rbyte_not (fun h => h3 (.inl h)) 40 rfl
          have e41 : ((s[k].toNat : Int) == 41) = false := rbyte_not (fun h => h3 (.inr (.inl h))) 41 rfl
          have e92 : ((s[k].toNat : Int) == 92) = false := rbyte_not (fun h => h3 (.inr (.inr h))) 92 rfl
          clear h3
          by_cases hp : 32 ≤ s[k].toNat ∧ s[k].toNat ≤ 126
          · rw [if_pos hp] at hm
            obtain ⟨p1, p2⟩ := hp
            have HQ := Lib.hid hm
            clear hm
            go_wp2_with fail
            go_roundg (s.size - (k + 1))
            case measure => omega
            case rel => exact ⟨k + 1, _, rfl, by omega, by go_num, rfl, Lib.hid (by rw [cat1 HO.out, HT.out, HQ.out]), HK.out⟩
          · rw [if_neg hp] at hm
            have hp' : s[k].toNat < 32 ∨ 126 < s[k].toNat := by omega
            have g1 := s[k].toNat_lt
            obtain ⟨n1, hn1⟩ : ∃ n, n = s[k].toNat / 64 := ⟨_, rfl⟩
            obtain ⟨n2, hn2⟩ : ∃ n, n = s[k].toNat / 8 % 8 := ⟨_, rfl⟩
            obtain ⟨n3, hn3⟩ : ∃ n, n = s[k].toNat % 8 := ⟨_, rfl⟩
            have k1 : (s[k].toNat : Int) / 64 = (n1 : Int) := by omega
            have k2 : (s[k].toNat : Int) / 8 % 8 = (n2 : Int) := by omega
            have k3 : (s[k].toNat : Int) % 8 = (n3 : Int) := by omega
            rw [← hn1, ← hn2, ← hn3] at hm
            have l1 : n1 < 8 := by omega
            have l2 : n2 < 8 := by omega
            have l3 : n3 < 8 := by omega
            have HQ := Lib.hid hm
            have x1 := oct_extract l1
            have x2 := oct_extract l2
            have x3 := oct_extract l3
            have o1 : (0 : Int) ≤ (n1 : Int) := by omega
            have o2 : (0 : Int) ≤ (n2 : Int) := by omega
            have o3 : (0 : Int) ≤ (n3 : Int) := by omega
            have q1 : (n1 : Int) + 1 ≤ 8 := by omega
            have q2 : (n2 : Int) + 1 ≤ 8 := by omega
            have q3 : (n3 : Int) + 1 ≤ 8 := by omega
            have u1 : (n1 : Int) ≤ (n1 : Int) + 1 := by omega
            have u2 : (n2 : Int) ≤ (n2 : Int) + 1 := by omega
            have u3 : (n3 : Int) ≤ (n3 : Int) + 1 := by omega
            have w1 : IntKind.u8.wrap ((n1 : Int) + 1) = (n1 : Int) + 1 := by unfold IntKind.wrap; simp [IntKind.signed, IntKind.bits]; omega
            have w2 : IntKind.u8.wrap ((n2 : Int) + 1) = (n2 : Int) + 1 := by unfold IntKind.wrap; simp [IntKind.signed, IntKind.bits]; omega
            have w3 : IntKind.u8.wrap ((n3 : Int) + 1) = (n3 : Int) + 1 := by unfold IntKind.wrap; simp [IntKind.signed, IntKind.bits]; omega
            clear hm hn1 hn2 hn3 g1 hp
            rcases hp' with h | h
            all_goals
              go_wp2_with fail
              go_quiet (fail)
              go_wp2_with fail
              go_roundg (s.size - (k + 1))
              case measure => omega
              case rel => exact ⟨k + 1, _, rfl, by omega, by go_num, rfl, Lib.hid (by rw [cat4 HO.out, HT.out, HQ.out]), HK.out.drewN _⟩
    · obtain rfl : k = s.size := by omega
      have HT := Lib.hid (show O ++ ⟨#[41]⟩ = ⟨(Lx.quoteV s.data.toList).toArray⟩ by
        rw [cat1 HO.out, List.take_of_length_le (by simp)]; rfl)
      go_wp2_with fail
      go_ret
      exact ⟨ret_str HT.out, HK.out⟩

theorem rname_ways (c : UInt8) : ((Lx.reg c = true ∧ c ≠ 35 ∧ 33 ≤ c.toNat ∧ c.toNat ≤ 126) ∧ Lx.nameB c = [c]) ∨ (¬(Lx.reg c = true ∧ c ≠ 35 ∧ 33 ≤ c.toNat ∧ c.toNat ≤ 126) ∧ Lx.nameB c = [35, Lx.hexD (c.toNat / 16), Lx.hexD (c.toNat % 16)]) := by
  have := Lx.byte_all (fun c => decide (((Lx.reg c = true ∧ c ≠ 35 ∧ 33 ≤ c.toNat ∧ c.toNat ≤ 126) ∧ Lx.nameB c = [c]) ∨ (¬(Lx.reg c = true ∧ c ≠ 35 ∧ 33 ≤ c.toNat ∧ c.toNat ≤ 126) ∧ Lx.nameB c = [35, Lx.hexD (c.toNat / 16), Lx.hexD (c.toNat % 16)]))) (by kernel_rfl) c
  exact of_decide_eq_true this

set_option maxRecDepth 100000 in
set_option maxHeartbeats 8000000 in
theorem RNameOf_any (s : ByteArray) (w : World) (hs : s.size ≤ 4294967296) :
    Calls Try.prog 24 #[.string s] w fun e w' => e = .returned (.string ⟨(Lx.nameV s.data.toList).toArray⟩) ∧ Kept w w' := by
  go_enter Try.func24, Try.ntmps24
  go_wp2_with fail
  go_loopg [3, 5] s.size (fun n v i wr => ∃ (k : Nat) (O : ByteArray), n = s.size - k ∧ k ≤ s.size ∧ i = .int .i64 k ∧ v = .string O ∧ Hid (O = ⟨(47 :: (s.data.toList.take k).flatMap Lx.nameB).toArray⟩) ∧ Kept w wr)
  case atStart => exact ⟨0, _, rfl, Nat.zero_le _, rfl, rfl, Lib.hid rfl, Kept.refl w⟩
  case round =>
    obtain ⟨k, O, hn, hkl, rfl, rfl, HO, hk⟩ := hrel
    have HK := Lib.hid hk
    have hOl : O.size ≤ 17179869185 := by
      rw [HO.out]
      have := rname_len s k
      show (List.toArray _).size ≤ _
      simp only [List.size_toArray]; omega
    clear hk
    by_cases hlt : k < s.size
    · have HT := Lib.hid (rname_take s k hlt)
      have HX := extract_one s k hlt
      rcases rname_ways s[k] with ⟨⟨y1, y2, y3, y4⟩, hq⟩ | ⟨hno, hq⟩
      · have HQ := Lib.hid hq
        have e35 : ((s[k].toNat : Int) == 35) = false := rbyte_not y2 35 rfl
        have f35 : ((s[k].toNat : Int) != 35) = true := by simp only [bne, e35]; rfl
        have HY1 := Lib.hid y1
        clear hq y2 y1
        go_wp2_with fail
        refine (Rregular_any _ _).mono ?_
        rintro e w2 ⟨rfl, rfl⟩
        rw [HY1.out]
        go_wp2_with fail
        go_roundg (s.size - (k + 1))
        case measure => omega
        case rel => exact ⟨k + 1, _, rfl, by omega, by go_num, rfl, Lib.hid (by rw [cat1 HO.out, HT.out, HQ.out]), HK.out⟩
      · have g1 := s[k].toNat_lt
        obtain ⟨n1, hn1⟩ : ∃ n, n = s[k].toNat / 16 := ⟨_, rfl⟩
        obtain ⟨n2, hn2⟩ : ∃ n, n = s[k].toNat % 16 := ⟨_, rfl⟩
        have k1 : (s[k].toNat : Int) / 16 = (n1 : Int) := by omega
        have k2 : (s[k].toNat : Int) % 16 = (n2 : Int) := by omega
        rw [← hn1, ← hn2] at hq
        have l1 : n1 < 16 := by omega
        have l2 : n2 < 16 := by omega
        have HQ := Lib.hid hq
        have x1 := hex_extract l1
        have x2 := hex_extract l2
        have o1 : (0 : Int) ≤ (n1 : Int) := by omega
        have o2 : (0 : Int) ≤ (n2 : Int) := by omega
        have q1 : (n1 : Int) + 1 ≤ 16 := by omega
        have q2 : (n2 : Int) + 1 ≤ 16 := by omega
        have u1 : (n1 : Int) ≤ (n1 : Int) + 1 := by omega
        have u2 : (n2 : Int) ≤ (n2 : Int) + 1 := by omega
        have w1 : IntKind.u8.wrap ((n1 : Int) + 1) = (n1 : Int) + 1 := by unfold IntKind.wrap; simp [IntKind.signed, IntKind.bits]; omega
        have w2 : IntKind.u8.wrap ((n2 : Int) + 1) = (n2 : Int) + 1 := by unfold IntKind.wrap; simp [IntKind.signed, IntKind.bits]; omega
        have hways : (Lx.reg s[k] = false) ∨ (Lx.reg s[k] = true ∧ ((s[k].toNat : Int) != 35) = false) ∨ (Lx.reg s[k] = true ∧ ((s[k].toNat : Int) != 35) = true ∧ s[k].toNat < 33) ∨ (Lx.reg s[k] = true ∧ ((s[k].toNat : Int) != 35) = true ∧ 33 ≤ s[k].toNat ∧ 126 < s[k].toNat) := by
          cases h1 : Lx.reg s[k]
          · exact .inl rfl
          · by_cases h2 : s[k] = 35
            · exact .inr (.inl ⟨rfl, by rw [h2]; rfl⟩)
            · have h2' : ((s[k].toNat : Int) != 35) = true := by simp only [bne, rbyte_not h2 35 rfl]; rfl
              by_cases h3 : s[k].toNat < 33
              · exact .inr (.inr (.inl ⟨rfl, h2', h3⟩))
              · exact .inr (.inr (.inr ⟨rfl, h2', by omega, by
                  by_cases h4 : s[k].toNat ≤ 126
                  · exact absurd ⟨h1, h2, by omega, h4⟩ hno
                  · omega⟩))
        clear hq hn1 hn2 g1 hno
        rcases hways with y1 | ⟨y1, y2⟩ | ⟨y1, y2, y3⟩ | ⟨y1, y2, y3, y4⟩
        all_goals
          have HY1 := Lib.hid y1
          clear y1
          go_wp2_with fail
          refine (Rregular_any _ _).mono ?_
          rintro e w2 ⟨rfl, rfl⟩
          rw [HY1.out]
          go_wp2_with fail
          go_quiet (fail)
          go_wp2_with fail
          go_roundg (s.size - (k + 1))
          case measure => omega
          case rel => exact ⟨k + 1, _, rfl, by omega, by go_num, rfl, Lib.hid (by rw [cat3 HO.out, HT.out, HQ.out]), HK.out.drewN _⟩
    · obtain rfl : k = s.size := by omega
      have HT := Lib.hid (show O = ⟨(Lx.nameV s.data.toList).toArray⟩ by
        rw [HO.out, List.take_of_length_le (by simp)]; rfl)
      go_wp2_with fail
      go_ret
      exact ⟨ret_str HT.out, HK.out⟩

end Go.Proofs.Ytgijgklojlfihaa
