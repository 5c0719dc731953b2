/-
  Contracts of package math's Copysign and Trunc.
-/
import Derived.Test.YthcecfenjbdgmaaQuo
import Derived.Test.YthcecfenjbdgmaaClamp
namespace Go.Proofs.Ythcecfenjbdgmaa
set_option maxRecDepth 100000
open D

/-- the nought with a sign -/
def negz : Nat := 9223372036854775808


end Go.Proofs.Ythcecfenjbdgmaa
