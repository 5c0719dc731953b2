/-
  The call of awake of darninglaw14.
-/
import Derived.Test.YtlpbdnfecnochaaBke
import Derived.Test.YtlpbdnfecnochaaBkf
import Derived.Test.YtlpbdnfecnochaaBkg
import Derived.Test.YtlpbdnfecnochaaBkh
import Derived.Test.YtlpbdnfecnochaaBki
namespace Go.Proofs.Ytlpbdnfecnochaa
set_option maxRecDepth 100000
open Go.RowKit

theorem ones_blk : blkF [7, 0, 0, 10, 0, 0, 0, 0] = some [⟨0, 3, true⟩, ⟨3, 5, false⟩] := by kernel_rfl
theorem ones_first : firstL 8 = [16, 0, 0, 0, 0, 0, 0, 0] := by kernel_rfl
theorem OwnA.as_slice {B : Nat} {w : World} {v : Value} {l : List Bk} (h : OwnA blkE B w v l) (h0 : 0 < l.length) : ∃ g c, v = .slice (some ⟨g, 0, none⟩) l.length c ∧ l.length ≤ c ∧ g < w.heap.size ∧ ∀ w', Below w.heap.size w w' → RA blkE w' (.slice (some ⟨g, 0, none⟩) l.length c) l ∧ ∀ k, k < l.length →
    w'.cell? ⟨g, k * 3, none⟩ = some (.int .i64 (l.getD k default).a) ∧ w'.cell? ⟨g, k * 3 + 1, none⟩ = some (.int .i64 (l.getD k default).s) ∧ w'.cell? ⟨g, k * 3 + 2, none⟩ = some (.bool (l.getD k default).u) := by
  obtain ⟨g, c, rfl, _, hg, hc, _⟩ := h.block h0
  refine ⟨g, c, rfl, hc, hg, fun w' hb => ⟨(h.below hb).ra, fun k hk => ?_⟩⟩
  obtain ⟨b, off, e, _, hx⟩ := blk_at (h.below hb).ra h0
  cases e
  obtain ⟨_, x1, x2, x3, _⟩ := hx k hk
  rw [Nat.zero_add] at x1 x2 x3
  exact ⟨x1, x2, x3⟩

end Go.Proofs.Ytlpbdnfecnochaa
