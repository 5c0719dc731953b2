/-
  Slices of blocks and words of a call's own: an element, as the statements read it.
-/
import Derived.Test.YtlpbdnfecnochaaBkj
namespace Go.Proofs.Ytlpbdnfecnochaa
set_option maxRecDepth 100000
open Go.RowKit

theorem OwnA.elem {B g n c : Nat} {w : World} {l : List Bk} (h : OwnA blkE B w (.slice (some ⟨g, 0, none⟩) n c) l) {k : Nat} (hk : k < l.length) : (blkLoad (.pointer (some ⟨g, k * 3, none⟩))).run Try.prog w = .ok (.agg (bc (l.getD k default))) w := by
  obtain ⟨b, off, e, _, hx⟩ := blk_at h.ra (by omega)
  cases e
  obtain ⟨x, _⟩ := hx k hk
  rw [Nat.zero_add] at x
  exact x
theorem set_ok {l : List Int} (h : WordsOk l) {j : Nat} {x : Int} (h0 : 0 ≤ x) (h1 : x ≤ 18446744073709551615) : WordsOk (l.set j x) := fun i hi => by
  rw [List.length_set] at hi
  have := h i hi
  rw [List.getD_eq_getElem?_getD] at this ⊢
  by_cases e : j = i
  · subst e
    rw [List.getElem?_set_self hi]
    exact ⟨h0, h1⟩
  · rw [List.getElem?_set_ne e]; exact this
theorem hdB_in (n : Int) (u : Bool) : 0 ≤ hdB n u ∧ hdB n u ≤ 18446744073709551615 := by
  by_cases h : MayB n
  · rw [hdB_yes h]
    obtain ⟨h1, h2⟩ := h
    rcases useB_or u with ⟨_, e⟩ | ⟨_, e⟩ <;> omega
  · rw [hdB_no h]; decide
theorem wrF_ok : ∀ (l : List Bk) (w : List Int), WordsOk w → WordsOk (wrF w l)
  | [], _, h => h
  | _ :: r, _, h => wrF_ok r _ (set_ok h (hdB_in _ _).1 (hdB_in _ _).2)
theorem zeros_ok (n : Nat) : WordsOk (List.replicate n 0) := fun j hj => by
  rw [List.length_replicate] at hj
  simp [hj]

end Go.Proofs.Ytlpbdnfecnochaa
