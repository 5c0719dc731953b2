/-
  The reference's Merged, whether one can be given back or not.
-/
import Derived.Test.YtlpbdnfecnochaaMgr
namespace Go.Proofs.Ytlpbdnfecnochaa
set_option maxRecDepth 100000
open Go.RowKit

theorem rmerged_is (l : List Bk) (i : Int) (v : Value) (w : World) (hv : RA blkE w v l) (hl : l.length ≤ 1000) (r : Bool) (h : canM l i = r) :
    Calls Try.prog 9 #[v, .int .i64 i] w fun e w' => (∃ u, e = .returned (.tuple #[u, .int .i64 (if r = true then frm l i.toNat else 0 : Nat), .bool r]) ∧ OwnA blkE w.heap.size w' u (mrgF l i)) ∧ Below w.heap.size w w' := by
  cases r with
  | false =>
    refine (rmerged_no l i v w hv hl h).mono ?_
    rintro e w' ⟨rfl, hb⟩
    rw [mrgF_no h]
    exact ⟨⟨_, rfl, own_nil_a _ _ _⟩, hb⟩
  | true =>
    obtain ⟨k, rfl⟩ : ∃ k : Nat, i = k := ⟨i.toNat, by have := (canM_yes.1 h).2.1; omega⟩
    rw [if_pos rfl, Int.toNat_natCast]
    exact rmerged_yes l k v w hv hl h
end Go.Proofs.Ytlpbdnfecnochaa
