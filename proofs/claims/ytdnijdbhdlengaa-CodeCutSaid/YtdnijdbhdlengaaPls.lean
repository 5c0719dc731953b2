/-
  Variables for plans that a statement makes, in whatever order: stores into them, and what they hold at last.
-/
import Derived.Test.YtdnijdbhdlengaaPlw
import Derived.Deep.DeepCutAuto
namespace Go.Proofs.Ytdnijdbhdlengaa
set_option maxRecDepth 100000
open Go.RowKit

/-- a fact that 'assumption' does not see through -/
structure Kept (p : Prop) : Prop where
  out : p
theorem size_drew (w : World) : w.drew.heap.size = w.heap.size := rfl
theorem size_row (w : World) (g : Nat) (c : Array Value) : (w.setRow g c).heap.size = w.heap.size := by simp [World.setRow]
theorem below_row {B : Nat} {w w1 : World} {g : Nat} {c : Array Value} (h : Below B w w1) (hg : B ≤ g) : Below B w (w1.setRow g c) := by
  refine h.trans ⟨rfl, rfl, rfl, by simp [World.setRow], fun k hk => ?_⟩
  simp only [World.setRow, Array.getElem?_modify]
  rw [if_neg (by omega)]
end Go.Proofs.Ytdnijdbhdlengaa
