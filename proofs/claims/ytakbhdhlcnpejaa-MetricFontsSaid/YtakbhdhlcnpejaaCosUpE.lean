/-
  The entries up to what ends them: what the rest's upTo answers, if it is so of each entry within.
-/
import Derived.Test.YtakbhdhlcnpejaaCosUp
namespace Go.Proofs.Ytakbhdhlcnpejaa
open Go.RowKit Cx

end Go.Proofs.Ytakbhdhlcnpejaa
