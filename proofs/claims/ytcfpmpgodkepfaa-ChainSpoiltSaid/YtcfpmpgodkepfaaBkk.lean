/-
  Slices of blocks and words of a call's own: an element, as the statements read it.
-/
import Derived.Test.YtcfpmpgodkepfaaBkj
namespace Go.Proofs.Ytcfpmpgodkepfaa
set_option maxRecDepth 100000
open Go.RowKit

theorem OwnA.elem {B g n c : Nat} {w : World} {l : List Bk} (h : OwnA blkE B w (.slice (some ⟨g, 0, none⟩) n c) l) {k : Nat} (hk : k < l.length) : (blkLoad (.pointer (some ⟨g, k * 3, none⟩))).run Try.prog w = .ok (.agg (bc (l.getD k default))) w := by
  obtain ⟨b, off, e, _, hx⟩ := blk_at h.ra (by omega)
  cases e
  obtain ⟨x, _⟩ := hx k hk
  rw [Nat.zero_add] at x
  exact x
end Go.Proofs.Ytcfpmpgodkepfaa
