/-
  Blocks given by a function of the place.
-/
import Derived.Test.YtplehfdanlfjoaaChg
namespace Go.Proofs.Ytplehfdanlfjoaa
open Go.ChangeShapes Go.WideShapes Go.ChangeAt Go.RowKit

def tab (n : Nat) (f : Nat → Value) : Array Value := ((List.range n).map f).toArray
theorem tab_size (n : Nat) (f : Nat → Value) : (tab n f).size = n := by rw [tab, List.size_toArray, List.length_map, List.length_range]
theorem tab_at (n : Nat) (f : Nat → Value) (k : Nat) : (tab n f)[k]? = if k < n then some (f k) else none := by
  rw [tab, List.getElem?_toArray, List.getElem?_map]
  by_cases hk : k < n
  · rw [List.getElem?_range hk, if_pos hk]; rfl
  · rw [List.getElem?_eq_none (by rw [List.length_range]; omega), if_neg hk]; rfl
theorem tab_ext {n : Nat} {cs : Array Value} {f : Nat → Value} (h : ∀ j, cs[j]? = if j < n then some (f j) else none) : cs = tab n f := by
  apply Array.ext_getElem?
  intro j
  rw [h j, tab_at]
theorem Whole.tab1 {w : World} {g n : Nat} {t : TypeId} {f f' : Nat → Value} (h : Whole w g t (tab n f)) (k : Nat) (v : Value) (hk : k < n) (he : ∀ j, j < n → f' j = if j = k then v else f j) : Whole (w.setCell ⟨g, k, none⟩ v) g t (tab n f') := by
  have := h.set_ k v
  have e : (tab n f).setIfInBounds k v = tab n f' := tab_ext fun j => by
    rw [Array.getElem?_setIfInBounds, tab_at, tab_size]
    by_cases hj : j < n
    · rw [if_pos hj, if_pos hj, he j hj]
      by_cases e : k = j
      · subst e; simp [hk]
      · rw [if_neg e, if_neg (fun h => e h.symm)]
    · rw [if_neg hj, if_neg hj]
      by_cases e : k = j
      · rw [if_pos e, if_neg (fun hx => hj (e ▸ hx))]
      · rw [if_neg e]
  rw [e] at this
  exact this
theorem Whole.tabN {w : World} {g n : Nat} {t : TypeId} {f f' : Nat → Value} (h : Whole w g t (tab n f)) (o : Nat) (vs : List Value) (he : ∀ j, j < n → some (f' j) = if o ≤ j ∧ j < o + vs.length then vs[j - o]? else some (f j)) : Whole (w.setCells g o vs) g t (tab n f') := by
  obtain ⟨cs', h1, h2, h3⟩ := Whole.setCells vs o w (tab n f) h
  have e : cs' = tab n f' := tab_ext fun j => by
    rw [h3 j, tab_at, tab_size]
    by_cases hj : j < n
    · rw [if_pos hj, if_pos hj, he j hj]
      by_cases hin : o ≤ j ∧ j < o + vs.length
      · rw [if_pos hin, if_pos ⟨hin.1, hin.2, hj⟩]
      · rw [if_neg hin, if_neg (fun hx => hin ⟨hx.1, hx.2.1⟩)]
    · rw [if_neg (fun hx => hj hx.2.2), if_neg hj, if_neg hj]
  rw [e] at h1
  exact h1
theorem Whole.cellAt {w : World} {g n : Nat} {t : TypeId} {f : Nat → Value} (h : Whole w g t (tab n f)) {k : Nat} (hk : k < n) : w.cell? ⟨g, k, none⟩ = some (f k) := by
  rw [h.at_, tab_at, if_pos hk]
theorem Whole.tabEq {w : World} {g n : Nat} {t : TypeId} {f f' : Nat → Value} (h : Whole w g t (tab n f)) (he : ∀ j, j < n → f' j = f j) : Whole w g t (tab n f') := by
  have e : tab n f = tab n f' := tab_ext fun j => by
    rw [tab_at]
    by_cases hj : j < n
    · rw [if_pos hj, if_pos hj, he j hj]
    · rw [if_neg hj, if_neg hj]
  rw [← e]; exact h

theorem whole_setCells_other {g g' : Nat} {t : TypeId} {cs : Array Value} (hne : g ≠ g') : ∀ (vs : List Value) (o : Nat) (w : World), Whole w g t cs → Whole (w.setCells g' o vs) g t cs
  | [], _, _, h => h
  | v :: vr, o, w, h => by
    rw [World.setCells]
    exact whole_setCells_other hne vr (o + 1) _ (h.other (p := ⟨g', o, none⟩) hne v)
theorem made_tab (z : Array Value) (m : Nat) (f : Nat → Value) (h : ∀ j, j < m → z[j % z.size]! = f j) : madeCells z m = tab m f := tab_ext fun j => by
  unfold madeCells
  rw [Array.getElem?_map, Array.getElem?_range]
  by_cases hj : j < m
  · rw [if_pos hj, if_pos hj]; simp only [Option.map_some, h j hj]
  · rw [if_neg hj, if_neg hj]; rfl
end Go.Proofs.Ytplehfdanlfjoaa
