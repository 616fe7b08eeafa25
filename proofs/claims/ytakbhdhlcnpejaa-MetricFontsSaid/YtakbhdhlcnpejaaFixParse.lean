/-
  What package fix's Parse answers, at every text.
-/
import Derived.Test.YtakbhdhlcnpejaaXBase
import Derived.Test.YtakbhdhlcnpejaaFixText
import Derived.Test.YtakbhdhlcnpejaaShelf
namespace Go.Proofs.Ytakbhdhlcnpejaa
open Go.RowKit

end Go.Proofs.Ytakbhdhlcnpejaa
