/-
  A slice of steps that came in reads as a list of steps.
-/
import Derived.Test.YtlgjfhjnfimahaaMem
import Derived.Deep.SlicePairs
import Derived.SizedLaws
namespace Go.Proofs.Ytlgjfhjnfimahaa
open Go.ChangeShapes Go.WideShapes Go.ChangeAt Go.RowKit

theorem steps_in {H : Type} {enc : TypeId × Value → H} {W : World} {base : Nat} {v : Value} {d : DataW H} {p : List MemPlace}
    (hval : Value.okWide Try.prog W .any base 23 v) (h : DataW.Trod enc Try.prog W 0 (fun _ => true) true 23 v d p) : ∃ l : List (Int × Int), RL W v l := by
  obtain ⟨va, vl, vc, rfl⟩ := okWide_slice Try.underlying23 hval
  obtain ⟨fuel, hf⟩ := h
  rcases Go.Deep.open_slice_pairs Try.underlying23 (Try.underlying37) cells_instr rfl rfl cells_int cells_int hf with ⟨hcs, _⟩ | ⟨a, len, cap, m, n, V0, V1, D0, D1, P0, P1, hcs, _, hl, hm, hmm, _, hx⟩
  · simp [Value.cells] at hcs
    obtain ⟨rfl, rfl, rfl⟩ := hcs
    exact ⟨[], rl_nil W⟩
  · simp [Value.cells] at hcs
    obtain ⟨rfl, rfl, rfl⟩ := hcs
    have hle : vl ≤ m := by rw [hmm]; split <;> omega
    have each : ∀ i, i < vl → ∃ x y : Int, W.cell? (a.add (i * 2)) = some (.int .i64 x) ∧ W.cell? (a.add (i * 2 + 1)) = some (.int .i64 y) := by
      intro i hi
      obtain ⟨g0, g1, g2, g3⟩ := hx i (by omega)
      obtain ⟨x, hx0, _⟩ := DataW.trod_int Try.underlying3 g2
      obtain ⟨y, hy0, _⟩ := DataW.trod_int Try.underlying3 g3
      simp only [List.cons.injEq, and_true] at hx0 hy0
      exact ⟨x, y, by rw [g0, hx0], by rw [g1, hy0]⟩
    by_cases h0 : vl = 0
    · subst h0; exact ⟨[], some a, vc, rfl, Nat.zero_le _, hm, .inl rfl⟩
    · obtain ⟨x0, y0, e0, _⟩ := each 0 (by omega)
      obtain ⟨b, off, spot⟩ := a
      have hspot : spot = none := by simpa [Addr.add] using World.cell?_spot e0
      subst hspot
      have pick : ∀ i, ∃ q : Int × Int, i < vl → W.cell? ⟨b, off + i * 2, none⟩ = some (.int .i64 q.1) ∧ W.cell? ⟨b, off + (i * 2 + 1), none⟩ = some (.int .i64 q.2) := by
        intro i
        by_cases hi : i < vl
        · obtain ⟨x, y, hx, hy⟩ := each i hi
          exact ⟨(x, y), fun _ => ⟨by rw [← add_plain]; exact hx, by rw [← add_plain]; exact hy⟩⟩
        · exact ⟨(0, 0), fun h => absurd h hi⟩
      obtain ⟨f, hfp⟩ := Classical.axiomOfChoice pick
      refine ⟨(List.range vl).map f, _, vc, by simp, by simpa using hl, hm, .inr ⟨b, off, rfl, fun i hi => ?_⟩⟩
      have hi' : i < vl := by simpa using hi
      have : ((List.range vl).map f).getD i (0, 0) = f i := by simp [hi']
      rw [this]
      exact hfp i hi'

theorem bytes_instr : Try.prog.bytesOf 37 = 16 := by kernel_rfl

/-- the same, and how long it can be -/
theorem steps_in_sized {H : Type} {enc : TypeId × Value → H} {W : World} {base : Nat} {v : Value} {d : DataW H} {p : List MemPlace}
    (hval : Value.okWide Try.prog W .any base 23 v) (h : DataW.Trod enc Try.prog W 0 (fun _ => true) true 23 v d p) {ts : List TypeId} {ds : List (DataW H)} {j : Nat}
    (ht : ts[j]? = some 23) (hd : ds[j]? = some d) (hsz : (DataW.weightsEach Try.prog ts ds).all (· ≤ reachBytes) = true) : ∃ l : List (Int × Int), RL W v l ∧ l.length ≤ 8796093022208 := by
  obtain ⟨l, hl⟩ := steps_in hval h
  refine ⟨l, hl, ?_⟩
  obtain ⟨q, c, rfl, _⟩ := hl
  obtain ⟨fuel, hf⟩ := h
  rcases Go.Deep.open_slice_pairs Try.underlying23 (Try.underlying37) cells_instr rfl rfl cells_int cells_int hf with ⟨hcs, _⟩ | ⟨a, len, cap, m, n, V0, V1, D0, D1, P0, P1, hcs, _, hl, hm, hmm, hdx, hx⟩
  · simp [Value.cells] at hcs
    rw [hcs.2.1]; exact Nat.zero_le _
  · simp [Value.cells] at hcs
    obtain ⟨rfl, rfl, rfl⟩ := hcs
    have hdd := (Prod.mk.inj hdx).1
    subst hdd
    have := sized_slice hsz ht hd Try.underlying23
    rw [bytes_instr] at this
    simp only [List.length_map, List.length_range] at this
    have hR : reachBytes = 140737488351232 := by decide
    omega
end Go.Proofs.Ytlgjfhjnfimahaa
