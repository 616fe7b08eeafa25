/-
  What package fix's Add, Sub, Mul, Div and Int answer, at all numbers.
-/
import Derived.Test.YtkobcgemllcfoaaDoorFixWalks
namespace Go.Proofs.YtkobcgemllcfoaaDoor
open Go.RowKit

set_option maxHeartbeats 400000 in
theorem Int_any (n : Int) (w : World) (hn : -9223372036854775808 ≤ n) (hn' : n ≤ 9223372036854775807) :
    Calls Tryd.prog 70 #[.int .i64 n] w fun e w' => e = .returned (.tuple #[.int .i64 (Fx.intV n), .int .i64 (Fx.intE n)]) ∧ Kept w w' := by
  by_cases h1 : n < -2147483
  · have HV := Lib.hid (Fx.int_out (n := n) (by omega))
    go_enter Tryd.func70, Tryd.ntmps70
    go_wp2
    go_ret2
    exact ⟨ret_ints HV.out.1.symm HV.out.2.symm, Kept.refl _⟩
  · by_cases h2 : 2147483 < n
    · have HV := Lib.hid (Fx.int_out (n := n) (by omega))
      go_enter Tryd.func70, Tryd.ntmps70
      go_wp2
      go_ret2
      exact ⟨ret_ints HV.out.1.symm HV.out.2.symm, Kept.refl _⟩
    · have HV := Lib.hid (Fx.int_in (n := n) (by omega))
      go_enter Tryd.func70, Tryd.ntmps70
      go_wp2
      go_ret2
      exact ⟨ret_ints HV.out.1.symm HV.out.2.symm, Kept.refl _⟩

end Go.Proofs.YtkobcgemllcfoaaDoor
