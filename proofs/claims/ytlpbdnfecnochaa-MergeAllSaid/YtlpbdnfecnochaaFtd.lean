/-
  Contracts of package fit: the lowest size, the places of those that fit.
-/
import Derived.Test.YtlpbdnfecnochaaFtc
namespace Go.Proofs.Ytlpbdnfecnochaa
set_option maxRecDepth 100000
open Go.RowKit

theorem tgS_no {n m : Int} {b : Bk} {r : List Bk} (h : fitB n b = false) : tgS n m (b :: r) = tgS n m r := by rw [tgS, if_neg (by rw [h]; simp)]
theorem tgS_take {n m : Int} {b : Bk} {r : List Bk} (h : fitB n b = true) (h2 : m = 0 ∨ b.s < m) : tgS n m (b :: r) = tgS n b.s r := by rw [tgS, if_pos ⟨h, h2⟩]
theorem tgS_keep {n m : Int} {b : Bk} {r : List Bk} (h : ¬ (m = 0 ∨ b.s < m)) : tgS n m (b :: r) = tgS n m r := by rw [tgS, if_neg (fun g => h g.2)]


/-- places being gathered -/
structure Gth (z : Int) (l : List Bk) (w0 wr : World) (lv : Value) (k : Nat) : Prop where
  ex : ∃ pre : List Nat, OwnI w0.heap.size wr lv (ins pre) ∧ pre ++ plS z k (l.drop k) = plS z 0 l ∧ pre.length ≤ k
  up : Below w0.heap.size w0 wr
theorem ownI_nil' (B : Nat) (w : World) : OwnI B w (.slice none 0 0) [] := World.ownsRow_nil _ _ _ _
theorem own_below_i' {B : Nat} {w w' : World} {v : Value} {l : List Int} (h : OwnI B w v l) (hb : Below w.heap.size w w') : OwnI B w' v l := by
  refine ⟨h.1, h.2.imp id ?_⟩
  rintro ⟨g, cap, cur, hv, h1, hg, r⟩
  exact ⟨g, cap, cur, hv, h1, (hb.block g (Array.getElem?_eq_some_iff.1 hg).1).trans hg, r⟩
theorem ins_app (f : List Nat) (i : Nat) : ins (f ++ [i]) = ins f ++ [(i : Int)] := by simp [ins]
theorem ins_length (f : List Nat) : (ins f).length = f.length := by simp [ins]
theorem Gth.start {z : Int} {l : List Bk} {w : World} : Gth z l w w (.slice none 0 0) 0 := ⟨⟨[], ownI_nil' _ _, rfl, Nat.le_refl _⟩, Below.refl _ _⟩
theorem Gth.skip {z : Int} {l : List Bk} {w0 wr w' : World} {lv : Value} {k : Nat} (h : Gth z l w0 wr lv k) (hk : k < l.length) (hn : hasS z (l.getD k default) = false) (hb : Below wr.heap.size wr w') : Gth z l w0 w' lv (k + 1) := by
  obtain ⟨pre, h1, h2, h3⟩ := h.ex
  refine ⟨⟨pre, own_below_i' h1 hb, ?_, by omega⟩, below_more h.up hb⟩
  rw [← h2, getD_cut hk, plS, hn, if_neg Bool.false_ne_true]
theorem Gth.more {z : Int} {l : List Bk} {w0 wr W : World} {lv : Value} {k : Nat} (h : Gth z l w0 wr lv k) (hk : k < l.length) (hy : hasS z (l.getD k default) = true) (hb : Below wr.heap.size wr W) (hl : l.length ≤ 1000) :
    ∃ pre, OwnI w0.heap.size (W.alloc (.cells #[.int .i64 (k : Int)] 3)) lv (ins pre) ∧ Hid ((ins pre).length + 1 ≤ 1000000) ∧ w0.heap.size ≤ (W.alloc (.cells #[.int .i64 (k : Int)] 3)).heap.size ∧
      ∀ v' w', OwnI w0.heap.size w' v' (ins pre ++ [(k : Int)]) → (W.alloc (.cells #[.int .i64 (k : Int)] 3)).grownBy w' lv.ownBlock → Gth z l w0 w' v' (k + 1) := by
  obtain ⟨pre, h1, h2, h3⟩ := h.ex
  have hB := below_more h.up hb
  have h1' := own_below_i' h1 hb
  refine ⟨pre, World.ownsRow.alloc h1' _, Lib.hid (by rw [ins_length]; omega), by rw [size_alloc]; exact Nat.le_succ_of_le hB.size, fun v' w' ho hg => ⟨⟨pre ++ [k], by rw [ins_app]; exact ho, ?_, by simp; omega⟩, Below.grown (bal hB) hg (by rw [size_alloc]; exact Nat.le_succ_of_le hB.size) (fun q hq => (World.ownsRow.lt h1 q hq).1)⟩⟩
  rw [← h2, getD_cut hk, plS, hy, if_pos rfl]
  simp

end Go.Proofs.Ytlpbdnfecnochaa
