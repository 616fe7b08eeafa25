/-
  What package lex's plainText answers: the Text behind "(".
-/
import Derived.Test.YtakbhdhlcnpejaaLexEsc
namespace Go.Proofs.Ytakbhdhlcnpejaa
open Go.RowKit

end Go.Proofs.Ytakbhdhlcnpejaa
