/-
  What package lex's wordOrNumber answers.
-/
import Derived.Test.YtakbhdhlcnpejaaLexW1
import Derived.Test.YtakbhdhlcnpejaaFixParse
namespace Go.Proofs.Ytakbhdhlcnpejaa
open Go.RowKit

theorem extract_run (s : ByteArray) (k n : Nat) : s.extract k (k + n) = ⟨((s.data.toList.drop k).take n).toArray⟩ := by
  apply ByteArray.ext
  rw [ByteArray.data_extract]
  apply Array.ext'
  simp [List.take_drop]

end Go.Proofs.Ytakbhdhlcnpejaa
