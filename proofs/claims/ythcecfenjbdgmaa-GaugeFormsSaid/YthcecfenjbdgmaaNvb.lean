/-
  A memory that lies in a block; what a call on it changes.
-/
import Derived.Test.YthcecfenjbdgmaaNvs
import Derived.Test.YthcecfenjbdgmaaChg
namespace Go.Proofs.Ythcecfenjbdgmaa
set_option maxRecDepth 100000
open Go.ChangeShapes Go.WideShapes Go.ChangeAt Go.RowKit

theorem Chg.ln {D : List Nat} {w w1 : World} (h : Chg D w w1) {g : Nat} {l : List Int} (hl : Ln w g l) (hg : g ∉ D) : Ln w1 g l := ⟨h.whole hl.1 hg, hl.2⟩

/-- block g holds the memory s -/
def Nm (w : World) (g : Nat) (s : Nv) : Prop := Whole w g 61 s.cells
theorem Nm.lt {w : World} {g : Nat} {s : Nv} (h : Nm w g s) : g < w.heap.size := Whole.lt h
theorem Nm.alloc {w : World} {g : Nat} {s : Nv} (h : Nm w g s) (o : Obj) : Nm (w.alloc o) g s := Whole.alloc h o
theorem Nm.drewN {w : World} {g : Nat} {s : Nv} (h : Nm w g s) (n : Nat) : Nm (w.drewN n) g s := h
theorem Nm.drew {w : World} {g : Nat} {s : Nv} (h : Nm w g s) : Nm w.drew g s := h
theorem Nm.below {w w' : World} {g : Nat} {s : Nv} (h : Nm w g s) (hb : Below w.heap.size w w') : Nm w' g s := (hb.block g h.lt).trans h
theorem Nm.chg {D : List Nat} {w w' : World} {g : Nat} {s : Nv} (h : Nm w g s) (hc : Chg D w w') (hg : g ∉ D) : Nm w' g s := hc.whole h hg
theorem Nm.other {w : World} {g g' i : Nat} {s : Nv} (h : Nm w g s) (hne : g ≠ g') (u : Value) : Nm (w.setCell ⟨g', i, none⟩ u) g s := Whole.other h hne u
theorem Nm.past {w : World} {g g' : Nat} {s : Nv} (h : Nm w g s) (hne : g ≠ g') (c : Array Value) : Nm (w.setRow g' c) g s := by
  unfold Nm Whole
  rw [setRow_other w g' g c hne]; exact h
theorem Nm.free {w : World} {g : Nat} {s : Nv} (h : Nm w g s) (k : Nat) : w.frozen? ⟨g, k, none⟩ = false := Whole.free h k
theorem Nm.at_ {w : World} {g : Nat} {s : Nv} (h : Nm w g s) {k : Nat} (hk : k < 2041) : w.cell? ⟨g, k, none⟩ = some (s.val k) := by
  rw [Whole.at_ h, s.cells_at, if_pos hk]
theorem Nm.set1 {w : World} {g : Nat} {s s' : Nv} (h : Nm w g s) (k : Nat) (v : Value) (hk : k < 2041) (he : ∀ j, j < 2041 → s'.val j = if j = k then v else s.val j) : Nm (w.setCell ⟨g, k, none⟩ v) g s' := by
  have := Whole.set_ h k v
  have e : s.cells.setIfInBounds k v = s'.cells := by
    apply Array.ext_getElem?
    intro j
    rw [Array.getElem?_setIfInBounds, s'.cells_at, s.cells_at, s.cells_size]
    by_cases hj : j < 2041
    · rw [if_pos hj, if_pos hj, he j hj]
      by_cases e : k = j
      · subst e; simp [hk]
      · rw [if_neg e, if_neg (fun h => e h.symm)]
    · rw [if_neg hj, if_neg hj]
      by_cases e : k = j
      · rw [if_pos e, if_neg (fun hx => hj (e ▸ hx))]
      · rw [if_neg e]
  unfold Nm
  rw [← e]
  exact this
theorem Nm.setN {w : World} {g : Nat} {s s' : Nv} (h : Nm w g s) (o : Nat) (vs : List Value) (he : ∀ j, j < 2041 → some (s'.val j) = if o ≤ j ∧ j < o + vs.length then vs[j - o]? else some (s.val j)) : Nm (w.setCells g o vs) g s' := by
  obtain ⟨cs', h1, h2, h3⟩ := Whole.setCells vs o w s.cells h
  have e : cs' = s'.cells := by
    apply Array.ext_getElem?
    intro j
    rw [h3 j, s'.cells_at, s.cells_size, s.cells_at]
    by_cases hj : j < 2041
    · rw [if_pos hj, if_pos hj, he j hj]
      by_cases hin : o ≤ j ∧ j < o + vs.length
      · rw [if_pos hin, if_pos ⟨hin.1, hin.2, hj⟩]
      · rw [if_neg hin, if_neg (fun hx => hin ⟨hx.1, hx.2.1⟩)]
    · rw [if_neg (fun hx => hj hx.2.2), if_neg hj, if_neg hj]
  rwa [e] at h1
theorem Nm.as {w : World} {g : Nat} {s s' : Nv} (h : Nm w g s) (e : s = s') : Nm w g s' := e ▸ h
end Go.Proofs.Ythcecfenjbdgmaa
