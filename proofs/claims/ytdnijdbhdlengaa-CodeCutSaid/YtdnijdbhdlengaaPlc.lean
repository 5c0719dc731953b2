/-
  A plan in a variable; contracts of package plan and of the reference's Pages, Device.
-/
import Derived.Test.YtdnijdbhdlengaaPln
import Derived.Deep.WholeRow
namespace Go.Proofs.Ytdnijdbhdlengaa
set_option maxRecDepth 100000
open Go.RowKit




/-- such a plan, in whole numbers -/
def MayN (l s p b : Nat) : Prop := (1 ≤ l ∧ l ≤ 64) ∧ s ≤ 16 ∧ (1 ≤ p ∧ p ≤ 1000) ∧ 1 ≤ b ∧ b ≤ 100
theorem MayN.may {l s p b : Nat} (h : MayN l s p b) : May (l : Int) (s : Int) (p : Int) (b : Int) := by unfold MayN at h; unfold May; omega
theorem May.nat {l s p b : Int} (h : May l s p b) : ∃ L S P B : Nat, l = L ∧ s = S ∧ p = P ∧ b = B ∧ MayN L S P B := by
  unfold May at h
  exact ⟨l.toNat, s.toNat, p.toNat, b.toNat, by omega, by omega, by omega, by omega, by unfold MayN; omega⟩


end Go.Proofs.Ytdnijdbhdlengaa
