/-
  A slice of ints that came in, and how long it can be.
-/
import Derived.Test.YthcecfenjbdgmaaRi
import Derived.SizedLaws
namespace Go.Proofs.Ythcecfenjbdgmaa
set_option maxRecDepth 100000
open Go.ChangeShapes Go.WideShapes Go.ChangeAt Go.RowKit

theorem bytes_int : Try.prog.bytesOf 3 = 8 := by kernel_rfl
theorem ints_in_sized {H : Type} {enc : TypeId × Value → H} {W : World} {base : Nat} {v : Value} {d : DataW H} {p : List MemPlace}
    (hval : Value.okWide Try.prog W .any base 22 v) (hlt : ∀ x ∈ p, x.block < W.heap.size) (h : DataW.Trod enc Try.prog W 0 (fun _ => true) true 22 v d p) {ts : List TypeId} {ds : List (DataW H)} {j : Nat}
    (htj : ts[j]? = some 22) (hd : ds[j]? = some d) (hsz : (DataW.weightsEach Try.prog ts ds).all (· ≤ reachBytes) = true) : ∃ l : List Int, IntsIn .i64 W v l ∧ l.length ≤ 17592186044416 := by
  obtain ⟨l, hl⟩ := ints_in Try.underlying22 Try.underlying3 cells_int hval hlt h
  refine ⟨l, hl, ?_⟩
  obtain ⟨q, c, rfl, _⟩ := hl
  obtain ⟨fuel, hf⟩ := h
  rcases open_ints Try.underlying22 Try.underlying3 cells_int hf with ⟨hcs, _⟩ | ⟨a, len, cap, zs, hcs, _, hl, hm, hz, hx, _⟩
  · simp [Value.cells] at hcs
    rw [hcs.2.1]; exact Nat.zero_le _
  · simp [Value.cells] at hcs
    obtain ⟨rfl, rfl, rfl⟩ := hcs
    have hdd := (Prod.mk.inj hx).1
    subst hdd
    have := sized_slice hsz htj hd Try.underlying22
    rw [bytes_int] at this
    have hz' : zs.length = c := by simpa using hz
    simp only [lits, List.length_map, List.length_take, List.length_drop] at this
    have hR : reachBytes = 140737488351232 := by decide
    omega
end Go.Proofs.Ythcecfenjbdgmaa
