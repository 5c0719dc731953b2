/-
  slices.Sort and slices.Compact at a slice of ints of a call's own, by the shelf's contracts.
-/
import Derived.Test.YtnlhjppjgjobkaaShelf
import Derived.Test.YtnlhjppjgjobkaaRi
import Derived.Test.YtnlhjppjgjobkaaEln
import Derived.Sort.OwnSortedInts
namespace Go.Proofs.Ytnlhjppjgjobkaa
set_option maxRecDepth 100000
open Go.ChangeShapes Go.WideShapes Go.ChangeAt Go.RowKit

theorem sort_own {B : Nat} {w : World} {v : Value} {R : List Int} (h : OwnI B w v R) (hl : R.length ≤ 1000000) : Calls Try.prog 28 #[v] w fun e w' => e = .returned (.tuple #[]) ∧ OwnI B w' v (R.mergeSort fun x y => decide (x ≤ y)) ∧ w.grownBy w' v.ownBlock := by
  obtain ⟨hlen, ⟨rfl, h0⟩ | ⟨g, cap, cur, rfl, hb, hg, h1, h2, h3, h4⟩⟩ := id h
  · obtain rfl : R = [] := List.eq_nil_of_length_eq_zero h0
    refine (Any.slices_Sort_int_none Try.lays189 none 0 w).mono ?_
    rintro e w' ⟨rfl, rfl⟩
    exact ⟨rfl, by simpa using h, World.grownBy.refl _ _⟩
  · rw [Nat.mul_one] at h4
    have hH := holds_of_blockI (ss := R) hg h4
    refine (Any.slices_Sort_int Try.lays189 g 0 cap R w hH (Array.getElem?_eq_some_iff.1 hg).1 (by omega)).mono ?_
    rintro e w' ⟨rfl, n, os, rfl⟩
    have ho := ownsRow_sortedI (n := n) (os := os) (ts := R.mergeSort fun x y => decide (x ≤ y)) (ss := R) (by simp) hb hg h1 h2 (by rw [h3])
    refine ⟨rfl, ?_, grownBy_sortedI _⟩
    unfold OwnI
    rw [List.length_mergeSort]
    exact ho
theorem own_take_i {B g c n : Nat} {w : World} {l : List Int} (h : OwnI B w (.slice (some ⟨g, 0, none⟩) n c) l) {m : Nat} (hm : m ≤ l.length) : OwnI B w (.slice (some ⟨g, 0, none⟩) m c) (l.take m) := by
  obtain ⟨hlen, h0 | ⟨g', cap, cur, e, hb, hg, h1, h2, h3, h4⟩⟩ := h
  · cases h0.1
  · cases e
    have hlt : (l.take m).length = m := by rw [List.length_take]; omega
    refine ⟨by simp, .inr ⟨g, c, cur, by rw [hlt], hb, hg, by rw [hlt]; omega, h2, h3, ?_⟩⟩
    rw [hlt, Nat.mul_one, List.map_take, ← h4, Nat.mul_one, List.take_take, Nat.min_eq_left hm]
theorem compact_own {B : Nat} {w : World} {v : Value} {R : List Int} (h : OwnI B w v R) (hl : R.length ≤ 1000000) : Calls Try.prog 29 #[v] w fun e w' => (∃ u, e = .returned u ∧ OwnI B w' u (Lib.compact R)) ∧ w.grownBy w' v.ownBlock := by
  obtain ⟨hlen, ⟨rfl, h0⟩ | ⟨g, cap, cur, rfl, hb, hg, h1, h2, h3, h4⟩⟩ := id h
  · obtain rfl : R = [] := List.eq_nil_of_length_eq_zero h0
    refine (Any.slices_Compact_int_empty Try.laysNm220 none 0 w).mono ?_
    rintro e w' ⟨rfl, rfl⟩
    exact ⟨⟨_, rfl, h⟩, World.grownBy.refl _ _⟩
  · rw [Nat.mul_one] at h4
    have hH := holds_of_blockI (ss := R) hg h4
    refine (Any.slices_Compact_int Try.laysNm220 g 0 cap R w hH (by omega) h1).mono ?_
    rintro e w' ⟨rfl, q, rfl⟩
    have hcl : (Lib.compact R).length ≤ R.length := by
      unfold Lib.compact Lib.compactUpTo
      rw [List.length_map]
      have := List.length_filter_le (Lib.keeps R.toArray) (List.range R.length)
      rw [List.length_range] at this
      exact this
    have eg : ∀ x : World, Sort.grow x #[] = x := fun x => by simp [Sort.grow]
    have ho := ownsRow_sortedI (n := q) (os := #[]) (ts := Lib.compact R ++ List.replicate (R.length - (Lib.compact R).length) 0) (ss := R) (by simp; omega) hb hg h1 h2 (by rw [h3])
    rw [eg] at ho
    have ho2 : OwnI B (Sort.putRow (Value.int .i64) (Sort.ahead w q) g 0 (Lib.compact R ++ List.replicate (R.length - (Lib.compact R).length) 0).toArray) (.slice (some ⟨g, 0, none⟩) R.length cap) (Lib.compact R ++ List.replicate (R.length - (Lib.compact R).length) 0) := by
      unfold OwnI
      have : (Lib.compact R ++ List.replicate (R.length - (Lib.compact R).length) 0).length = R.length := by simp; omega
      rw [this]
      exact ho
    have ho3 := own_take_i ho2 (m := (Lib.compact R).length) (by simp)
    rw [List.take_left'  rfl] at ho3
    have hgr := grownBy_sortedI (w := w) (g := g) (n := q) (os := #[]) (Lib.compact R ++ List.replicate (R.length - (Lib.compact R).length) 0).toArray
    rw [eg] at hgr
    exact ⟨⟨_, rfl, ho3⟩, hgr⟩
end Go.Proofs.Ytnlhjppjgjobkaa
