/-
  Package edge's Clamp: a contract.
-/
import Derived.Test.YthcecfenjbdgmaaCmp2
namespace Go.Proofs.Ythcecfenjbdgmaa
set_option maxRecDepth 100000
open D

def clampW (x lo hi : Nat) : Nat := if nan x || nan lo || nan hi then lo else if aheadB hi lo then lo else if aheadB x lo then lo else if aheadB hi x then hi else x

end Go.Proofs.Ythcecfenjbdgmaa
