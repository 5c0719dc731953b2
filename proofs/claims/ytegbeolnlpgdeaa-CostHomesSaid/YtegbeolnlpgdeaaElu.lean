/-
  Slices of ints of a call's own: none; seen from a later world; what an append leaves.
-/
import Derived.Test.YtegbeolnlpgdeaaEln
import Derived.Test.YtegbeolnlpgdeaaZma
namespace Go.Proofs.Ytegbeolnlpgdeaa
set_option maxRecDepth 100000
open Go.RowKit

theorem own_nil_i (B : Nat) (w : World) : OwnI B w (.slice none 0 0) [] := World.ownsRow_nil _ _ _ _
theorem own_up_i {B : Nat} {w w' : World} {v : Value} {l : List Int} (h : OwnI B w v l) (hb : Below w.heap.size w w') : OwnI B w' v l := by
  refine ⟨h.1, h.2.imp id ?_⟩
  rintro ⟨g, cap, cur, hv, h1, hg, r⟩
  exact ⟨g, cap, cur, hv, h1, (hb.block g (Array.getElem?_eq_some_iff.1 hg).1).trans hg, r⟩
theorem below_app_i {B : Nat} {w w1 w2 : World} {v : Value} {l : List Int} (h : Below B w w1) (hB : B ≤ w1.heap.size) (ho : OwnI B w1 v l) (hg : w1.grownBy w2 v.ownBlock) : Below B w w2 := h.grown hg hB (fun k hk => (World.ownsRow.lt ho k hk).1)
end Go.Proofs.Ytegbeolnlpgdeaa
