/-
  Contracts of package plan and of the reference's MayPlan, Pages, Device.
-/
import Derived.Test.YtdnijdbhdlengaaPge
import Derived.Test.YtdnijdbhdlengaaBlk
import Derived.BigQuiet
import Derived.Deep.RegionHeld3
namespace Go.Proofs.Ytdnijdbhdlengaa
set_option maxRecDepth 100000
open Go.RowKit

/-- may a heap be so? -/
def May (l s p b : Int) : Prop := (1 ≤ l ∧ l ≤ 64) ∧ (0 ≤ s ∧ s ≤ 16) ∧ (1 ≤ p ∧ p ≤ 1000) ∧ 1 ≤ b ∧ b ≤ 100
instance (l s p b : Int) : Decidable (May l s p b) := by unfold May; infer_instance


end Go.Proofs.Ytdnijdbhdlengaa
