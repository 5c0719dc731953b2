/-
  Slices of ints that a call made itself.
-/
import Derived.Test.YtaghncdeojdghaaParts
import Derived.Deep.OwnRows
import Derived.Maps.AppendAt
namespace Go.Proofs.Ytaghncdeojdghaa
open D Go.RowKit

theorem info_int : (Try.prog.info? 3).map (fun i => (i.zero, i.size, i.bytes)) = some (some (.int .i64 0), 1, 8) := by kernel_rfl
def iv (x : Int) : Value := .int .i64 x

/-- a slice of ints of a call's own -/
def OwnI (B : Nat) (w : World) (v : Value) (l : List Int) : Prop := w.ownsRow B 3 1 v l.length (l.map iv)

theorem takeI_snoc {l : List Int} {k : Nat} (h : k < l.length) : l.take (k + 1) = l.take k ++ [l.getD k 0] := by
  rw [List.take_succ_eq_append_getElem h]; simp [h]
theorem OwnI.nil (B : Nat) (w : World) : OwnI B w (.slice none 0 0) [] := World.ownsRow_nil _ _ _ _

theorem OwnI.ri {B : Nat} {w : World} {v : Value} {l : List Int} (h : OwnI B w v l) : RI w v l := by
  have h' : w.ownsRow B 3 1 v l.length (l.map iv) := h
  obtain ⟨_, ⟨rfl, h0⟩ | ⟨g, cap, cur, rfl, _⟩⟩ := h
  · exact ⟨none, 0, by rw [h0], .inl (List.eq_nil_of_length_eq_zero h0)⟩
  · refine ⟨_, cap, rfl, .inr ⟨g, 0, rfl, fun i hi => ?_⟩⟩
    have := h'.cells (g := g) rfl i (iv (l.getD i 0)) (by simp [hi])
    have e : (⟨g, 0, none⟩ : Addr).add i = ⟨g, 0 + i, none⟩ := Go.WideShapes.add_plain ..
    rw [e] at this; exact this
theorem size_alloc (w : World) (o : Obj) : (w.alloc o).heap.size = w.heap.size + 1 := by simp
theorem OwnI.shape {B : Nat} {w : World} {v : Value} {l : List Int} (h : OwnI B w v l) : ∃ p c, v = .slice p l.length c := ri_shape h.ri
theorem ri_some {w : World} {p : Option Addr} {cap : Nat} {l : List Int} (h : RI w (.slice p l.length cap) l) (h0 : 0 < l.length) : ∃ b off, p = some ⟨b, off, none⟩ ∧ ∀ i, i < l.length → w.cell? ⟨b, off + i, none⟩ = some (.int .i64 (l.getD i 0)) := by
  obtain ⟨p', cap', e, h | ⟨b, off, rfl, hc⟩⟩ := h
  · subst h; cases h0
  · cases e; exact ⟨b, off, rfl, hc⟩
theorem below_from {B : Nat} {w w1 w2 : World} (h : Below B w w1) (hB : B ≤ w1.heap.size) (h2 : ∃ n, w2 = w1.drewN n) : Below B w w2 := h.trans ((below_drew h2).mono hB)
theorem hn_tri (y : Int) : (y ≤ 0 ∧ ((hn y : Nat) : Int) = 0) ∨ (0 < y ∧ y ≤ 1000000 ∧ ((hn y : Nat) : Int) = y) ∨ (1000000 < y ∧ ((hn y : Nat) : Int) = 1000000) := by
  unfold hn; omega

/-- two slices of a call's own that lie apart -/
def Ap (v u : Value) : Prop := v.ownBlock = none ∨ u.ownBlock = none ∨ v.ownBlock ≠ u.ownBlock
theorem Ap.flip {v u : Value} (h : Ap v u) : Ap u v := by
  rcases h with h | h | h
  · exact .inr (.inl h)
  · exact .inl h
  · exact .inr (.inr (Ne.symm h))
theorem Ap.step {B : Nat} {w : World} {e : TypeId} {size n k : Nat} {v u u' : Value} {xs : List Value} (h : Ap v u) (ho : w.ownsRow B e size v n xs) (hat : u'.ownBlock = u.ownBlock ∨ u'.ownBlock = some k) (hk : w.heap.size ≤ k) : Ap v u' := by
  rcases hat with g | g
  · unfold Ap; rw [g]; exact h
  · cases hv : v.ownBlock with
    | none => exact .inl hv
    | some q =>
      refine .inr (.inr ?_)
      rw [hv, g]
      intro e
      have := (ho.lt q hv).2
      cases e; omega
theorem Ap.keeps {B : Nat} {w w' : World} {e : TypeId} {size n : Nat} {v u : Value} {xs : List Value} (h : Ap v u) (ho : w.ownsRow B e size v n xs) (hg : w.grownBy w' u.ownBlock) : w'.ownsRow B e size v n xs := by
  rcases h with h | h | h
  · exact ho.kept hg (.inl h)
  · cases hv : v.ownBlock with
    | none => exact ho.kept hg (.inl hv)
    | some q => exact ho.kept hg (.inr (by rw [hv, h]; intro e; cases e))
  · exact ho.kept hg (.inr h)
end Go.Proofs.Ytaghncdeojdghaa
