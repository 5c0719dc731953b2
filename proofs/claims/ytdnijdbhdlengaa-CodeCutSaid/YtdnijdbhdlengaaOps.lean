/-
  Variables for operations that a statement makes, in whatever order: stores into them, and what they hold at last.
-/
import Derived.Test.YtdnijdbhdlengaaCow
import Derived.Test.YtdnijdbhdlengaaPls
namespace Go.Proofs.Ytdnijdbhdlengaa
set_option maxRecDepth 100000
open Go.RowKit

theorem Pxv.alloc {w : World} {g : Nat} {x : Px} (h : Pxv w g x) (o : Obj) : Pxv (w.alloc o) g x := Whole.alloc h o
theorem Pxv.drew {w : World} {g : Nat} {x : Px} (h : Pxv w g x) : Pxv w.drew g x := h
theorem Pxv.store {w : World} {g : Nat} {x y : Px} (h : Pxv w g x) (h1 : y.v.oneCell' = true) : (pxStore (.pointer (some ⟨g, 0, none⟩)) (.agg (pxc y))).run Try.prog w = .ok () (w.setRow g (pxc y)) := by
  simp only [pxStore, Instr.storeAt, Instr.sureAddr, Sem.run_bind, Sem.run_pure, Result.andThen]
  exact run_storeVar_row w g 26 26 (pxc x) (pxc y) h (by rw [info_hop, pxc_size]) rfl (by simpa [pxc, Px.cells, Value.oneCell'] using h1)
theorem Pxv.put {w : World} {g : Nat} {x y : Px} (h : Pxv w g x) : Pxv (w.setRow g (pxc y)) g y := by
  have e : w.heap[g]? = some (.cells (pxc x) 26 (0, 0)) := h
  unfold Pxv Whole
  simp [World.setRow, Array.getElem?_modify, e]
theorem Pxv.past {w : World} {g g' : Nat} {x : Px} {c : Array Value} (h : Pxv w g x) (hne : g ≠ g') : Pxv (w.setRow g' c) g x := by
  have e : w.heap[g]? = some (.cells (pxc x) 26 (0, 0)) := h
  unfold Pxv Whole
  rw [← e]
  simp only [World.setRow, Array.getElem?_modify]
  rw [if_neg (fun e => hne e.symm)]
def IsPx (w : World) (g : Nat) : Prop := ∃ x, Pxv w g x
theorem IsPx.fresh (w : World) (g : Nat) (e : g = w.heap.size) : IsPx (w.alloc (.cells #[.int .i64 0, .int .i64 0, .int .i64 0, .int .i64 0, .slice none 0 0] 26)) g := by
  subst e; exact ⟨⟨0, 0, 0, 0, .slice none 0 0, []⟩, heap_alloc_last w _⟩
theorem IsPx.up {w : World} {g : Nat} (h : IsPx w g) (o : Obj) : IsPx (w.alloc o) g := h.elim fun x h => ⟨x, h.alloc o⟩
theorem IsPx.drew {w : World} {g : Nat} (h : IsPx w g) : IsPx w.drew g := h
theorem IsPx.row {w : World} {g g' : Nat} {y : Px} (h : IsPx w g) : IsPx (w.setRow g' (pxc y)) g := by
  obtain ⟨x, h⟩ := h
  by_cases e : g = g'
  · subst e; exact ⟨_, h.put⟩
  · exact ⟨x, h.past e⟩
theorem run_store_px {w : World} {g : Nat} {y : Px} (h1 : y.v.oneCell' = true) (h : IsPx w g) : (pxStore (.pointer (some ⟨g, 0, none⟩)) (.agg (pxc y))).run Try.prog w = .ok () (w.setRow g (pxc y)) :=
  h.elim fun _ h => h.store h1
theorem px_put_at {w : World} {g g' : Nat} {y : Px} (e : g = g') (h : IsPx w g) : Pxv (w.setRow g' (pxc y)) g y := by subst e; exact h.elim fun _ h => h.put
theorem Pxv.setn {w : World} {g : Nat} {d o n m : Int} {v : Value} {l : List Int} (h : Pxv w g ⟨d, o, n, m, v, l⟩) (x : Int) : Pxv (w.setCell ⟨g, 2, none⟩ (.int .i64 x)) g ⟨d, o, x, m, v, l⟩ := Whole.set_ h 2 (.int .i64 x)
theorem Pxv.setv {w : World} {g : Nat} {d o n m : Int} {v : Value} {l l' : List Int} (h : Pxv w g ⟨d, o, n, m, v, l⟩) (u : Value) : Pxv (w.setCell ⟨g, 4, none⟩ u) g ⟨d, o, n, m, u, l'⟩ := Whole.set_ h 4 u
theorem Pxv.other {w : World} {g : Nat} {x : Px} (h : Pxv w g x) {q : Addr} (hq : g ≠ q.block) (u : Value) : Pxv (w.setCell q u) g x := Whole.other h hq u
theorem Pxv.free {w : World} {g : Nat} {x : Px} (h : Pxv w g x) (i : Nat) : w.frozen? ⟨g, i, none⟩ = false := Whole.free h i
theorem Pxv.later {w : World} {g : Nat} {x : Px} (h : Pxv w g x) : ∀ w' : World, Below w.heap.size w w' → (pxLoad (.pointer (some ⟨g, 0, none⟩))).run Try.prog w' = .ok (.agg (pxc x)) w' := fun _ hb => (h.below hb).whole
end Go.Proofs.Ytdnijdbhdlengaa
