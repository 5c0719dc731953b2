/-
  The places of used blocks, being gathered.
-/
import Derived.Test.YtlpbdnfecnochaaMgw
import Derived.Test.YtlpbdnfecnochaaFtd
import Derived.Test.YtlpbdnfecnochaaBkd
namespace Go.Proofs.Ytlpbdnfecnochaa
set_option maxRecDepth 100000
open Go.RowKit

def usP : Nat → List Bk → List Nat
  | _, [] => []
  | j, b :: r => if b.u = true then j :: usP (j + 1) r else usP (j + 1) r
theorem usP_length : ∀ (l : List Bk) (j : Nat), (usP j l).length = cntU l
  | [], _ => rfl
  | b :: r, j => by
    have := usP_length r (j + 1)
    rw [usP, cntU]
    split
    · rw [List.length_cons]; omega
    · omega
theorem usP_mem : ∀ (l : List Bk) (j : Nat), ∀ x ∈ usP j l, ∃ i, x = j + i ∧ i < l.length ∧ (l.getD i default).u = true
  | [], _, x, h => by cases h
  | b :: r, j, x, h => by
    have rec_ : x ∈ usP (j + 1) r → ∃ i, x = j + i ∧ i < (b :: r).length ∧ ((b :: r).getD i default).u = true := fun h => by
      obtain ⟨i, e, hi, hu⟩ := usP_mem r (j + 1) x h
      exact ⟨i + 1, by omega, by rw [List.length_cons]; omega, by rw [List.getD_cons_succ]; exact hu⟩
    rw [usP] at h
    split at h
    · rename_i hb
      rcases List.mem_cons.1 h with rfl | h
      · exact ⟨0, rfl, by simp, hb⟩
      · exact rec_ h
    · exact rec_ h
theorem usP_at {l : List Bk} {q : Nat} (h : q < cntU l) : ∃ K : Nat, (ins (usP 0 l)).getD q 0 = (K : Int) ∧ K < l.length ∧ (l.getD K default).u = true := by
  have hq : q < (usP 0 l).length := by rw [usP_length]; exact h
  obtain ⟨i, e, hi, hu⟩ := usP_mem l 0 ((usP 0 l)[q]) (List.getElem_mem hq)
  refine ⟨i, ?_, hi, hu⟩
  rw [List.getD_eq_getElem?_getD]
  simp [ins, hq, e]
/-- places being gathered -/
structure Usd (l : List Bk) (w0 wr : World) (lv : Value) (k : Nat) : Prop where
  ex : ∃ pre : List Nat, OwnI w0.heap.size wr lv (ins pre) ∧ pre ++ usP k (l.drop k) = usP 0 l ∧ pre.length ≤ k
  up : Below w0.heap.size w0 wr
theorem Usd.start {l : List Bk} {w : World} : Usd l w w (.slice none 0 0) 0 := ⟨⟨[], ownI_nil' _ _, rfl, Nat.le_refl _⟩, Below.refl _ _⟩
theorem Usd.skip {l : List Bk} {w0 wr w' : World} {lv : Value} {k : Nat} (h : Usd l w0 wr lv k) (hk : k < l.length) (hn : (l.getD k default).u = false) (hb : Below wr.heap.size wr w') : Usd l w0 w' lv (k + 1) := by
  obtain ⟨pre, h1, h2, h3⟩ := h.ex
  refine ⟨⟨pre, own_below_i' h1 hb, ?_, by omega⟩, below_more h.up hb⟩
  rw [← h2, getD_cut hk, usP, hn, if_neg Bool.false_ne_true]
theorem Usd.more {l : List Bk} {w0 wr W : World} {lv : Value} {k : Nat} (h : Usd l w0 wr lv k) (hk : k < l.length) (hy : (l.getD k default).u = true) (hb : Below wr.heap.size wr W) (hl : l.length ≤ 1000) :
    ∃ pre, OwnI w0.heap.size (W.alloc (.cells #[.int .i64 (k : Int)] 3)) lv (ins pre) ∧ Hid ((ins pre).length + 1 ≤ 1000000) ∧ w0.heap.size ≤ (W.alloc (.cells #[.int .i64 (k : Int)] 3)).heap.size ∧
      ∀ v' w', OwnI w0.heap.size w' v' (ins pre ++ [(k : Int)]) → (W.alloc (.cells #[.int .i64 (k : Int)] 3)).grownBy w' lv.ownBlock → Usd l w0 w' v' (k + 1) := by
  obtain ⟨pre, h1, h2, h3⟩ := h.ex
  have hB := below_more h.up hb
  have h1' := own_below_i' h1 hb
  refine ⟨pre, World.ownsRow.alloc h1' _, Lib.hid (by rw [ins_length]; omega), by rw [size_alloc]; exact Nat.le_succ_of_le hB.size, fun v' w' ho hg => ⟨⟨pre ++ [k], by rw [ins_app]; exact ho, ?_, by simp; omega⟩, Below.grown (bal hB) hg (by rw [size_alloc]; exact Nat.le_succ_of_le hB.size) (fun q hq => (World.ownsRow.lt h1 q hq).1)⟩⟩
  rw [← h2, getD_cut hk, usP, hy, if_pos rfl]
  simp
theorem Usd.all {l : List Bk} {w0 wr : World} {lv : Value} (h : Usd l w0 wr lv l.length) : ∃ p c, lv = .slice p (cntU l) c ∧ RI wr lv (ins (usP 0 l)) := by
  obtain ⟨pre, h1, h2, _⟩ := h.ex
  rw [List.drop_length, usP, List.append_nil] at h2
  rw [h2] at h1
  obtain ⟨p, c, e, _⟩ := h1.ri
  refine ⟨p, c, ?_, h1.ri⟩
  rw [e, ins_length, usP_length]
end Go.Proofs.Ytlpbdnfecnochaa
