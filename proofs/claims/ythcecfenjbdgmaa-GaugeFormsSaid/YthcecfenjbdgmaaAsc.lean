/-
  Words that ascend in the order.
-/
import Derived.Test.YthcecfenjbdgmaaOf
namespace Go.Proofs.Ythcecfenjbdgmaa
set_option maxRecDepth 100000
open D Go.RowKit

/-- ascending in the order -/
def Asc (l : List Nat) : Prop := ∀ i j, i < j → j < l.length → rk (l.getD i 0) ≤ rk (l.getD j 0)
end Go.Proofs.Ythcecfenjbdgmaa
