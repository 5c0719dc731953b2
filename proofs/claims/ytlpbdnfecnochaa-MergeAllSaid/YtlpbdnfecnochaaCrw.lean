/-
  What every program must know of package carve: the call of awake of darninglaw16.
-/
import Derived.Test.YtlpbdnfecnochaaCri
namespace Go.Proofs.Ytlpbdnfecnochaa
set_option maxRecDepth 100000
open Go.RowKit

theorem OwnA.as_eds {B : Nat} {w : World} {v : Value} {l : List Ed} (h : OwnA edE B w v l) (h0 : 0 < l.length) : ∃ g c, v = .slice (some ⟨g, 0, none⟩) l.length c ∧ l.length ≤ c ∧ ∀ w', Below w.heap.size w w' → RA edE w' (.slice (some ⟨g, 0, none⟩) l.length c) l ∧ ∀ k, k < l.length →
    w'.cell? ⟨g, k * 2, none⟩ = some (.int .i64 (l.getD k default).w) ∧ w'.cell? ⟨g, k * 2 + 1, none⟩ = some (.int .u64 (l.getD k default).v) := by
  obtain ⟨g, c, rfl, _, hg, hc, _⟩ := h.block h0
  refine ⟨g, c, rfl, hc, fun w' hb => ⟨(h.below hb).ra, fun k hk => ?_⟩⟩
  obtain ⟨b, off, e, _, hx⟩ := ed_at (h.below hb).ra h0
  cases e
  obtain ⟨_, x1, x2, _⟩ := hx k hk
  rw [Nat.zero_add] at x1 x2
  exact ⟨x1, x2⟩
theorem crv_one : crvF [⟨0, 8, false⟩] 0 3 = [⟨0, 3, true⟩, ⟨3, 5, false⟩] := by kernel_rfl
theorem ced_one : cedF [⟨0, 8, false⟩] 0 3 = [⟨0, 7⟩, ⟨1, 0⟩, ⟨2, 0⟩, ⟨3, 10⟩] := by kernel_rfl
theorem can_one : canC [⟨0, 8, false⟩] 0 3 = true := by kernel_rfl

end Go.Proofs.Ytlpbdnfecnochaa
