/-
  A slice of ints of a call's own, made by make: stores and loads; a list given by a function.
-/
import Derived.Test.YthcecfenjbdgmaaRi
namespace Go.Proofs.Ythcecfenjbdgmaa
set_option maxRecDepth 100000
open Go.ChangeShapes Go.WideShapes Go.ChangeAt Go.RowKit

theorem made_own_i (w : World) (n : Nat) (hn : n ≤ maxLen) : OwnI w.heap.size (w.alloc (.cells (madeCells #[.int .i64 0] n) 3)) (.slice (some ⟨w.heap.size, 0, none⟩) n n) (List.replicate n 0) := by
  have e : (madeCells #[.int .i64 0] n).toList = (List.replicate n 0).map iv := by rw [toList_madeCells_one]; simp [iv]
  refine ⟨by simp, .inr ⟨w.heap.size, n, madeCells #[.int .i64 0] n, by simp, Nat.le_refl _, heap_alloc_new w _, by simp, hn, by rw [← Array.length_toList, e]; simp, by rw [e]; simp⟩⟩
theorem own_stored_i {B g c : Nat} {w : World} {n : Nat} {l : List Int} (h : OwnI B w (.slice (some ⟨g, 0, none⟩) n c) l) (j : Nat) (x : Int) : OwnI B (w.setCell ⟨g, j, none⟩ (.int .i64 x)) (.slice (some ⟨g, 0, none⟩) n c) (l.set j x) := by
  have hn : n = l.length := by
    obtain ⟨p, c', e⟩ := h.shape
    cases e; rfl
  subst hn
  have := World.ownsRow.stored (g := g) (cap := c) h j (iv x)
  unfold OwnI
  rw [List.length_set, List.map_set]
  exact this.1
theorem own_cell_i {B : Nat} {w : World} {g n c : Nat} {l : List Int} (h : OwnI B w (.slice (some ⟨g, 0, none⟩) n c) l) {j : Nat} (hj : j < l.length) : w.cell? ⟨g, j, none⟩ = some (.int .i64 (l.getD j 0)) ∧ w.frozen? ⟨g, j, none⟩ = false := by
  have hn : n = l.length := by
    obtain ⟨p, c', e⟩ := h.shape
    cases e; rfl
  subst hn
  refine ⟨?_, World.ownsRow.frozenAt (g := g) (cap := c) h j⟩
  rw [World.ownsRow.cellAt (g := g) (cap := c) h j (by omega)]
  simp [hj, iv]
theorem own_below_i {B : Nat} {w w' : World} {v : Value} {l : List Int} (h : OwnI B w v l) (hb : Below w.heap.size w w') : OwnI B w' v l := by
  refine ⟨h.1, h.2.imp id ?_⟩
  rintro ⟨g, cap, cur, hv, h1, hg, r⟩
  exact ⟨g, cap, cur, hv, h1, (hb.block g (Array.getElem?_eq_some_iff.1 hg).1).trans hg, r⟩

/-- n ints, given by a function -/
def byF (n : Nat) (f : Nat → Int) : List Int := (List.range n).map f
theorem byF_length (n : Nat) (f : Nat → Int) : (byF n f).length = n := by simp [byF]
theorem byF_getD {n k : Nat} (f : Nat → Int) (h : k < n) : (byF n f).getD k 0 = f k := by simp [byF, h]
theorem byF_zero (n : Nat) {f : Nat → Int} (h : ∀ k, f k = 0) : List.replicate n 0 = byF n f := by
  refine List.ext_getElem (by simp [byF]) fun i h1 h2 => ?_
  simp [byF, h]
theorem byF_set {n s : Nat} {f f' : Nat → Int} {x : Int} (h : x = f' s) (ho : ∀ k, k ≠ s → f' k = f k) : (byF n f).set s x = byF n f' := by
  refine List.ext_getElem (by simp [byF]) fun i h1 h2 => ?_
  rw [List.getElem_set]
  split
  · rename_i e; subst e; simp [byF, h]
  · rename_i e; simp [byF, ho i (fun q => e q.symm)]
end Go.Proofs.Ythcecfenjbdgmaa
