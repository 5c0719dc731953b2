/-
  Contracts of package chain, and of the reference's of the same: the place of a word, what is free.
-/
import Derived.Test.YtlpbdnfecnochaaBkc
namespace Go.Proofs.Ytlpbdnfecnochaa
set_option maxRecDepth 100000
open Go.RowKit

/-- a distance without a sign -/
theorem far_u64 {x a s : Int} (hx : (Lit.int .i64 x).wf = true) (ha : (Lit.int .i64 a).wf = true) (hs : (Lit.int .i64 s).wf = true) (h1 : 0 < s) (h2 : a ≤ x) :
    ∃ X A d, IntKind.u64.wrap x = X ∧ IntKind.u64.wrap a = A ∧ IntKind.u64.wrap (X - A) = d ∧ d = x - a ∧ IntKind.u64.wrap s = s := by
  obtain ⟨x1, x2⟩ := i64_wf hx
  obtain ⟨a1, a2⟩ := i64_wf ha
  obtain ⟨s1, s2⟩ := i64_wf hs
  refine ⟨_, _, x - a, rfl, rfl, ?_, rfl, ?_⟩
  · simp only [IntKind.wrap_u64]; omega
  · simp only [IntKind.wrap_u64]; omega



end Go.Proofs.Ytlpbdnfecnochaa
