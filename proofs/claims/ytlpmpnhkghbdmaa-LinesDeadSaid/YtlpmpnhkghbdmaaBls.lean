/-
  A slice of bools that came in.
-/
import Derived.Test.YtlpmpnhkghbdmaaBlk
import Derived.Deep.Grids
namespace Go.Proofs.Ytlpmpnhkghbdmaa
open Go.ChangeShapes Go.WideShapes Go.ChangeAt Go.RowKit

theorem cells_bool : Try.prog.cellsOf 4 = 1 := by kernel_rfl
def RBl (w : World) (v : Value) (l : List Bool) : Prop :=
  ∃ p cap, v = .slice p l.length cap ∧ l.length ≤ cap ∧ cap ≤ maxLen ∧ (l = [] ∨ ∃ b off, p = some ⟨b, off, none⟩ ∧ b < w.heap.size ∧ ∀ i, i < l.length → w.cell? ⟨b, off + i, none⟩ = some (.bool (l.getD i false)))
theorem bools_in {H : Type} {enc : TypeId × Value → H} {W : World} {base : Nat} {v : Value} {d : DataW H} {p : List MemPlace}
    (hval : Value.okWide Try.prog W .any base 49 v) (h : DataW.Trod enc Try.prog W 0 (fun _ => true) true 49 v d p) : ∃ l : List Bool, RBl W v l := by
  obtain ⟨va, vl, vc, rfl⟩ := okWide_slice Try.underlying49 hval
  obtain ⟨fuel, hf⟩ := h
  rcases Go.Deep.open_bools Try.underlying49 Try.underlying4 cells_bool hf with ⟨hcs, _⟩ | ⟨a, len, cap, B, hcs, _, hl, hm, _, hx⟩
  · simp [Value.cells] at hcs
    obtain ⟨rfl, rfl, rfl⟩ := hcs
    exact ⟨[], none, 0, rfl, Nat.le_refl _, Nat.zero_le _, .inl rfl⟩
  · simp [Value.cells] at hcs
    obtain ⟨rfl, rfl, rfl⟩ := hcs
    by_cases h0 : vl = 0
    · subst h0
      exact ⟨[], some a, vc, rfl, Nat.zero_le _, hm, .inl rfl⟩
    · obtain ⟨b, off, spot⟩ := a
      have e0 := hx 0 (by omega)
      have hspot : spot = none := by
        have := World.cell?_spot e0
        simpa [Addr.add] using this
      subst hspot
      refine ⟨(List.range vl).map B, _, vc, by simp, by simpa using hl, hm, .inr ⟨b, off, rfl, ?_, fun k hk => ?_⟩⟩
      · simpa [Addr.add] using World.block_lt_of_cell? W _ e0
      · have hk' : k < vl := by simpa using hk
        have := hx k (by omega)
        rw [add_plain] at this
        rw [this]; simp [hk']
end Go.Proofs.Ytlpmpnhkghbdmaa
