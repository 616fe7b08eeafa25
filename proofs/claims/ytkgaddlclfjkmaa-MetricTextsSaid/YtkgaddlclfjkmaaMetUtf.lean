/-
  A character as the model's own UTF-8.
-/
import Derived.Test.YtkgaddlclfjkmaaMetMath
import Derived.Laws.Runes
namespace Go.Proofs.Ytkgaddlclfjkmaa.Mt

theorem utf_enc (r : Int) : (Utf8.encode r).data.toList = Lib.encodeRune r := by
  by_cases h1 : 0 ≤ r ∧ r ≤ 127
  · have hv : Utf8.valid r = true := by unfold Utf8.valid; simp; omega
    simp only [Utf8.encode, hv, if_true, if_pos (show r.toNat < 0x80 by omega), Lib.encodeRune, Lib.encodeRuneZ_one h1.1 h1.2, List.map_cons, List.map_nil]
  by_cases h2 : 128 ≤ r ∧ r ≤ 2047
  · have hv : Utf8.valid r = true := by unfold Utf8.valid; simp; omega
    have e1 : (192 + r / 64).toNat = 192 + r.toNat / 64 := by omega
    have e2 : (128 + r % 64).toNat = 128 + r.toNat % 64 := by omega
    simp only [Utf8.encode, hv, if_true, if_neg (show ¬ r.toNat < 0x80 by omega), if_pos (show r.toNat < 0x800 by omega), Lib.encodeRune, Lib.encodeRuneZ_two h2.1 h2.2, List.map_cons, List.map_nil, e1, e2]
  by_cases h3 : (2048 ≤ r ∧ r < 55296) ∨ (57343 < r ∧ r ≤ 65535)
  · have hv : Utf8.valid r = true := by unfold Utf8.valid; simp; omega
    have e1 : (224 + r / 4096).toNat = 224 + r.toNat / 4096 := by omega
    have e2 : (128 + r / 64 % 64).toNat = 128 + r.toNat / 64 % 64 := by omega
    have e3 : (128 + r % 64).toNat = 128 + r.toNat % 64 := by omega
    simp only [Utf8.encode, hv, if_true, if_neg (show ¬ r.toNat < 0x80 by omega), if_neg (show ¬ r.toNat < 0x800 by omega), if_pos (show r.toNat < 0x10000 by omega), Lib.encodeRune, Lib.encodeRuneZ_three h3, List.map_cons, List.map_nil, e1, e2, e3]
  by_cases h4 : 65536 ≤ r ∧ r ≤ 1114111
  · have hv : Utf8.valid r = true := by unfold Utf8.valid; simp; omega
    have e1 : (240 + r / 262144).toNat = 240 + r.toNat / 262144 := by omega
    have e4 : (128 + r / 4096 % 64).toNat = 128 + r.toNat / 4096 % 64 := by omega
    have e2 : (128 + r / 64 % 64).toNat = 128 + r.toNat / 64 % 64 := by omega
    have e3 : (128 + r % 64).toNat = 128 + r.toNat % 64 := by omega
    simp only [Utf8.encode, hv, if_true, if_neg (show ¬ r.toNat < 0x80 by omega), if_neg (show ¬ r.toNat < 0x800 by omega), if_neg (show ¬ r.toNat < 0x10000 by omega), Lib.encodeRune, Lib.encodeRuneZ_four h4.1 h4.2, List.map_cons, List.map_nil, e1, e2, e3, e4]
  · have hv : Utf8.valid r = false := by
      unfold Utf8.valid
      cases hh : (decide (0 ≤ r) && decide (r < 0xD800) || decide (0xE000 ≤ r) && decide (r ≤ 0x10FFFF))
      · rfl
      · simp at hh; omega
    simp only [Utf8.encode, hv, Lib.encodeRune, Lib.encodeRuneZ_bad (r := r) (by omega), Bool.false_eq_true, if_false]
    rfl
theorem utf_eq (r : Int) : Utf8.encode r = ⟨(Lib.encodeRune r).toArray⟩ := by
  apply ByteArray.ext
  apply Array.toList_inj.1
  rw [utf_enc]

end Go.Proofs.Ytkgaddlclfjkmaa.Mt
