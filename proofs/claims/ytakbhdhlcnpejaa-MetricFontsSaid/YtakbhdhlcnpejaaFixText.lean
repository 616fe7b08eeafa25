/-
  What package fix's functions on texts answer: digitAt, grown, allDigits, thousandths, cutSign.
-/
import Derived.Test.YtakbhdhlcnpejaaFixWalks
namespace Go.Proofs.Ytakbhdhlcnpejaa
open Go.RowKit

theorem take_snoc (s : ByteArray) (k : Nat) (h : k < s.size) : s.data.toList.take (k + 1) = s.data.toList.take k ++ [s[k]] := by
  rw [List.take_succ_eq_append_getElem (by simpa using h)]; rfl

theorem ret_sign {a b : Bool} {c d : ByteArray} (h : a = b) (h' : c = d) : Ending.returned (.tuple #[.bool a, .string c]) = .returned (.tuple #[.bool b, .string d]) := by rw [h, h']

theorem behind_one (c : UInt8) (r : List UInt8) : (⟨(c :: r).toArray⟩ : ByteArray).extract 1 (r.length + 1) = ⟨r.toArray⟩ := by
  apply ByteArray.ext
  rw [ByteArray.data_extract]
  simp

end Go.Proofs.Ytakbhdhlcnpejaa
