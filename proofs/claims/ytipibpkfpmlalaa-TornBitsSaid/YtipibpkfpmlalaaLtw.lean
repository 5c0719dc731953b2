/-
  Two variables for lines that a statement with two calls makes, in whatever order: stores into them, and what they hold at last.
-/
import Derived.Test.YtipibpkfpmlalaaAlk
import Derived.Deep.DeepCutAuto
namespace Go.Proofs.Ytipibpkfpmlalaa
open Go.RowKit

/-- a fact that 'assumption' does not see through -/
structure Kept (p : Prop) : Prop where
  out : p
def IsLn (w : World) (g : Nat) : Prop := ∃ l, Ln w g l
theorem size_drew (w : World) : w.drew.heap.size = w.heap.size := rfl
theorem size_row (w : World) (g : Nat) (c : Array Value) : (w.setRow g c).heap.size = w.heap.size := by simp [World.setRow]
theorem IsLn.lt {w : World} {g : Nat} (h : IsLn w g) : g < w.heap.size := h.elim fun _ h => h.lt
theorem IsLn.new (w : World) {l : List Int} (h : l.length = 8) : IsLn (w.alloc (.cells (lc l) 24)) w.heap.size := ⟨l, Ln.new w h⟩
theorem IsLn.new2 (w : World) (o : Obj) {l : List Int} (h : l.length = 8) : IsLn ((w.alloc o).alloc (.cells (lc l) 24)) (w.heap.size + 1) := by
  have := Ln.new (w.alloc o) h
  rw [size_alloc] at this
  exact ⟨l, this⟩
theorem IsLn.fresh (w : World) (g : Nat) {l : List Int} (e : g = w.heap.size) (h : l.length = 8) : IsLn (w.alloc (.cells (lc l) 24)) g := by subst e; exact IsLn.new w h
theorem IsLn.up {w : World} {g : Nat} (h : IsLn w g) (o : Obj) : IsLn (w.alloc o) g := h.elim fun l h => ⟨l, h.alloc o⟩
theorem IsLn.call {w w' : World} {g : Nat} (hb : Below w.heap.size w w') (h : IsLn w g) : IsLn w' g := h.elim fun l h => ⟨l, h.below hb⟩
theorem IsLn.drew {w : World} {g : Nat} (h : IsLn w g) : IsLn w.drew g := h
theorem IsLn.row {w : World} {g g' : Nat} {c : List Int} (h : IsLn w g) (hc : c.length = 8) : IsLn (w.setRow g' (lc c)) g := by
  obtain ⟨l, h⟩ := h
  by_cases e : g = g'
  · subst e; exact ⟨c, h.put hc⟩
  · exact ⟨l, h.past e⟩
theorem run_store_is {w : World} {g : Nat} {x : List Int} (h : IsLn w g) (hx : x.length = 8) : (lineStore (.pointer (some ⟨g, 0, none⟩)) (.agg (lc x))).run Try.prog w = .ok () (w.setRow g (lc x)) :=
  h.elim fun _ h => h.store hx
theorem Ln.new2 (w : World) (o : Obj) {l : List Int} (h : l.length = 8) : Ln ((w.alloc o).alloc (.cells (lc l) 24)) (w.heap.size + 1) l := by
  have := Ln.new (w.alloc o) h
  rwa [size_alloc] at this
theorem put_is {w : World} {g : Nat} {x : List Int} (h : IsLn w g) (hx : x.length = 8) : Ln (w.setRow g (lc x)) g x := h.elim fun _ h => h.put hx
theorem Ln.fresh (w : World) (g : Nat) {l : List Int} (e : g = w.heap.size) (h : l.length = 8) : Ln (w.alloc (.cells (lc l) 24)) g l := by subst e; exact Ln.new w h
theorem put_at {w : World} {g g' : Nat} {x : List Int} (e : g = g') (h : IsLn w g) (hx : x.length = 8) : Ln (w.setRow g' (lc x)) g x := by subst e; exact put_is h hx
theorem Ln.drew {w : World} {g : Nat} {l : List Int} (h : Ln w g l) : Ln w.drew g l := h
end Go.Proofs.Ytipibpkfpmlalaa
