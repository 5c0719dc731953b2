/-
  A block by value: how it came in.
-/
import Derived.Test.YtabdcdddkmklcaaBka
namespace Go.Proofs.Ytabdcdddkmklcaa
set_option maxRecDepth 100000
open Go.ChangeShapes Go.WideShapes Go.ChangeAt Go.RowKit

theorem block_in {H : Type} {enc : TypeId × Value → H} {W : World} {base : Nat} {v : Value} {d : DataW H} {p : List MemPlace}
    (hval : Value.okWide Try.prog W .any base 24 v) (h : DataW.Trod enc Try.prog W 0 (fun _ => true) true 24 v d p) : ∃ c : Bk, v = .agg (bc c) ∧ c.Wf := by
  obtain ⟨cs, rfl, hsz, _⟩ : ∃ cs, v = .agg cs ∧ cs.size = Try.prog.cellsOf 24 ∧ Row.okWide Try.prog W .any base 24 cs := by
    simpa [Value.okWide, Try.underlying24] using hval
  obtain ⟨fuel, hf⟩ := h
  obtain ⟨c, hc, hw⟩ := block_cells hf
  refine ⟨c, ?_, hw⟩
  have : cs.toList = c.cells := by simpa [Value.cells] using hc
  rw [bc, ← this]
end Go.Proofs.Ytabdcdddkmklcaa
