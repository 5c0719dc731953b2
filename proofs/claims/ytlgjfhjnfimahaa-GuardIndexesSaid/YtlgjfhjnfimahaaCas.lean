/-
  The machine, plainly: the cases of a step; and a cell of an own slice stored.
-/
import Derived.Test.YtlgjfhjnfimahaaApp
import Derived.Test.YtlgjfhjnfimahaaStk
namespace Go.Proofs.Ytlgjfhjnfimahaa
open Go.RowKit

inductive Case (row t : List Int) (n : Int) : Int → Option (List Int) → Prop
  | push : t.length < 1000 → Case row t n 1 (some (n :: t))
  | full : t.length = 1000 → Case row t n 1 none
  | add (b a : Int) (r : List Int) : t = b :: a :: r → Case row t n 2 (some (wrapI (a + b) :: r))
  | add_short : t.length < 2 → Case row t n 2 none
  | div (b a : Int) (r : List Int) : t = b :: a :: r → ¬ b = 0 → Case row t n 3 (some (wrapI (a.tdiv b) :: r))
  | div0 (a : Int) (r : List Int) : t = 0 :: a :: r → Case row t n 3 none
  | div_short : t.length < 2 → Case row t n 3 none
  | place (b : Int) (r : List Int) : t = b :: r → 0 ≤ b → b < row.length → Case row t n 4 (some (row.getD b.toNat 0 :: r))
  | place_low (b : Int) (r : List Int) : t = b :: r → b < 0 → Case row t n 4 none
  | place_high (b : Int) (r : List Int) : t = b :: r → (row.length : Int) ≤ b → Case row t n 4 none
  | place_nil : t = [] → Case row t n 4 none
  | drop (b : Int) (r : List Int) : t = b :: r → Case row t n 5 (some r)
  | drop_nil : t = [] → Case row t n 5 none
  | other (k : Int) : ¬ k = 1 → ¬ k = 2 → ¬ k = 3 → ¬ k = 4 → ¬ k = 5 → Case row t n k none

theorem stp_case (row t : List Int) (k n : Int) (ht : t.length ≤ 1000) : Case row t n k (stp row t k n) := by
  have sh : (∀ b a r, t = b :: a :: r → False) → t.length < 2 := fun h => by
    match t, h with
    | [], _ => simp
    | [_], _ => simp
    | b :: a :: r, h => exact (h b a r rfl).elim
  unfold stp
  split
  · rename_i hk; subst hk
    split
    · rename_i h; exact .full h
    · rename_i h; exact .push (by omega)
  split
  · rename_i hk; subst hk
    split
    · exact .add _ _ _ rfl
    · rename_i h; exact .add_short (sh h)
  split
  · rename_i hk; subst hk
    split
    · split
      · rename_i hb; subst hb; exact .div0 _ _ rfl
      · rename_i hb; exact .div _ _ _ rfl hb
    · rename_i h; exact .div_short (sh h)
  split
  · rename_i hk; subst hk
    split
    · split
      · rename_i hb; exact .place _ _ rfl hb.1 hb.2
      · rename_i b r hb
        by_cases h0 : b < 0
        · exact .place_low _ _ rfl h0
        · exact .place_high _ _ rfl (by omega)
    · rename_i h
      match t, h with
      | [], _ => exact .place_nil rfl
      | b :: r, h => exact (h b r rfl).elim
  split
  · rename_i hk; subst hk
    split
    · exact .drop _ _ rfl
    · rename_i h
      match t, h with
      | [], _ => exact .drop_nil rfl
      | b :: r, h => exact (h b r rfl).elim
  · exact .other _ ‹_› ‹_› ‹_› ‹_› ‹_›

theorem OwnI.block {B : Nat} {w : World} {v : Value} {l : List Int} (h : OwnI B w v l) (h0 : 0 < l.length) : ∃ g c, v = .slice (some ⟨g, 0, none⟩) l.length c ∧ B ≤ g ∧ g < w.heap.size ∧ l.length ≤ c ∧ c ≤ maxLen := by
  obtain ⟨_, ⟨rfl, h1⟩ | ⟨g, cap, cur, rfl, hb, hg, h1, h2, _⟩⟩ := h
  · omega
  · exact ⟨g, cap, rfl, hb, (Array.getElem?_eq_some_iff.1 hg).1, h1, h2⟩
theorem OwnI.stored {B g c : Nat} {w : World} {n : Nat} {l : List Int} (h : OwnI B w (.slice (some ⟨g, 0, none⟩) n c) l) (j : Nat) (x : Int) : OwnI B (w.setCell ⟨g, j, none⟩ (.int .i64 x)) (.slice (some ⟨g, 0, none⟩) n c) (l.set j x) := by
  have hn : n = l.length := by
    obtain ⟨p, c', e⟩ := h.shape
    cases e; rfl
  subst hn
  have := World.ownsRow.stored (g := g) (cap := c) h j (iv x)
  unfold OwnI
  rw [List.length_set, List.map_set]
  exact this.1
theorem OwnI.cells {B : Nat} {w : World} {g n c : Nat} {l : List Int} (h : OwnI B w (.slice (some ⟨g, 0, none⟩) n c) l) {j : Nat} (hj : j < l.length) : w.cell? ⟨g, j, none⟩ = some (.int .i64 (l.getD j 0)) ∧ w.frozen? ⟨g, j, none⟩ = false := by
  have hn : n = l.length := by
    obtain ⟨p, c', e⟩ := h.shape
    cases e; rfl
  subst hn
  refine ⟨?_, World.ownsRow.frozenAt (g := g) (cap := c) h j⟩
  rw [World.ownsRow.cellAt (g := g) (cap := c) h j (by omega)]
  simp [hj, iv]
theorem OwnI.below {B : Nat} {w w' : World} {v : Value} {l : List Int} (h : OwnI B w v l) (hb : Below w.heap.size w w') : OwnI B w' v l := by
  refine ⟨h.1, h.2.imp id ?_⟩
  rintro ⟨g, cap, cur, hv, h1, hg, r⟩
  exact ⟨g, cap, cur, hv, h1, (hb.block g (Array.getElem?_eq_some_iff.1 hg).1).trans hg, r⟩
theorem own_nil (B : Nat) (w : World) : OwnI B w (.slice none 0 0) [] := World.ownsRow_nil _ _ _ _
theorem rev_set (b : Int) (r : List Int) (y : Int) : (b :: r).reverse.set r.length y = (y :: r).reverse := by
  rw [List.reverse_cons, List.reverse_cons, List.set_append_right _ _ (by simp)]
  simp
end Go.Proofs.Ytlgjfhjnfimahaa
