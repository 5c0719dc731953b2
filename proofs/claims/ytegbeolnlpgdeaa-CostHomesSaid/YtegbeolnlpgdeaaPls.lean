/-
  Variables for plans that a statement makes, in whatever order: stores into them, and what they hold at last.
-/
import Derived.Test.YtegbeolnlpgdeaaPlw
import Derived.Deep.DeepCutAuto
namespace Go.Proofs.Ytegbeolnlpgdeaa
set_option maxRecDepth 100000
open Go.RowKit

/-- a fact that 'assumption' does not see through -/
structure Kept (p : Prop) : Prop where
  out : p
/-- a whole one stored -/
def planStore (p v : Value) : Sem Unit := Instr.storeAt 26 p v
@[go_sem ↓] theorem storeAt_plan (p v : Value) : Instr.storeAt 26 p v = planStore p v := rfl
theorem Pq.alloc {w : World} {g : Nat} {l s p b : Int} (h : Pq w g l s p b) (o : Obj) : Pq (w.alloc o) g l s p b := Whole.alloc h o
theorem Pq.drew {w : World} {g : Nat} {l s p b : Int} (h : Pq w g l s p b) : Pq w.drew g l s p b := h
theorem Pq.lt {w : World} {g : Nat} {l s p b : Int} (h : Pq w g l s p b) : g < w.heap.size := Whole.lt h
theorem Pq.store {w : World} {g : Nat} {l s p b l' s' p' b' : Int} (h : Pq w g l s p b) : (planStore (.pointer (some ⟨g, 0, none⟩)) (Value.agg #[Value.int IntKind.i64 l', Value.int IntKind.i64 s', Value.int IntKind.i64 p', Value.int IntKind.i64 b'])).run Try.prog w = .ok () (w.setRow g #[Value.int IntKind.i64 l', Value.int IntKind.i64 s', Value.int IntKind.i64 p', Value.int IntKind.i64 b']) := by
  simp only [planStore, Instr.storeAt, Instr.sureAddr, Sem.run_bind, Sem.run_pure, Result.andThen]
  exact run_storeVar_row w g 26 26 #[Value.int IntKind.i64 l, Value.int IntKind.i64 s, Value.int IntKind.i64 p, Value.int IntKind.i64 b] #[Value.int IntKind.i64 l', Value.int IntKind.i64 s', Value.int IntKind.i64 p', Value.int IntKind.i64 b'] h (by rw [info_plan]; rfl) rfl (by simp [Value.oneCell'])
theorem Pq.put {w : World} {g : Nat} {l s p b l' s' p' b' : Int} (h : Pq w g l s p b) : Pq (w.setRow g #[Value.int IntKind.i64 l', Value.int IntKind.i64 s', Value.int IntKind.i64 p', Value.int IntKind.i64 b']) g l' s' p' b' := by
  have e : w.heap[g]? = some (.cells #[Value.int IntKind.i64 l, Value.int IntKind.i64 s, Value.int IntKind.i64 p, Value.int IntKind.i64 b] 26 (0, 0)) := h
  unfold Pq Whole
  simp [World.setRow, Array.getElem?_modify, e]
theorem Pq.past {w : World} {g g' : Nat} {l s p b : Int} {c : Array Value} (h : Pq w g l s p b) (hne : g ≠ g') : Pq (w.setRow g' c) g l s p b := by
  have e : w.heap[g]? = some (.cells #[Value.int IntKind.i64 l, Value.int IntKind.i64 s, Value.int IntKind.i64 p, Value.int IntKind.i64 b] 26 (0, 0)) := h
  unfold Pq Whole
  rw [← e]
  simp only [World.setRow, Array.getElem?_modify]
  rw [if_neg (fun e => hne e.symm)]
@[go_sem] theorem plan_store_new (w : World) (l s p b l' s' p' b' : Int) : (planStore (.pointer (some ⟨w.heap.size, 0, none⟩)) (Value.agg #[Value.int IntKind.i64 l', Value.int IntKind.i64 s', Value.int IntKind.i64 p', Value.int IntKind.i64 b'])).run Try.prog (w.alloc (.cells #[Value.int IntKind.i64 l, Value.int IntKind.i64 s, Value.int IntKind.i64 p, Value.int IntKind.i64 b] 26)) = .ok () (w.alloc (.cells #[Value.int IntKind.i64 l', Value.int IntKind.i64 s', Value.int IntKind.i64 p', Value.int IntKind.i64 b'] 26)) := by
  rw [Pq.store (l := l) (s := s) (p := p) (b := b) (heap_alloc_last w _), World.setRow_alloc_new]
def IsPl (w : World) (g : Nat) : Prop := ∃ l s p b, Pq w g l s p b
theorem size_drew (w : World) : w.drew.heap.size = w.heap.size := rfl
theorem size_row (w : World) (g : Nat) (c : Array Value) : (w.setRow g c).heap.size = w.heap.size := by simp [World.setRow]
theorem below_row {B : Nat} {w w1 : World} {g : Nat} {c : Array Value} (h : Below B w w1) (hg : B ≤ g) : Below B w (w1.setRow g c) := by
  refine h.trans ⟨rfl, rfl, rfl, by simp [World.setRow], fun k hk => ?_⟩
  simp only [World.setRow, Array.getElem?_modify]
  rw [if_neg (by omega)]
theorem Pq.fresh (w : World) (g : Nat) {l s p b : Int} (e : g = w.heap.size) : Pq (w.alloc (.cells #[Value.int IntKind.i64 l, Value.int IntKind.i64 s, Value.int IntKind.i64 p, Value.int IntKind.i64 b] 26)) g l s p b := by subst e; exact heap_alloc_last w _
theorem IsPl.fresh (w : World) (g : Nat) {l s p b : Int} (e : g = w.heap.size) : IsPl (w.alloc (.cells #[Value.int IntKind.i64 l, Value.int IntKind.i64 s, Value.int IntKind.i64 p, Value.int IntKind.i64 b] 26)) g := ⟨_, _, _, _, Pq.fresh w g e⟩
theorem IsPl.up {w : World} {g : Nat} (h : IsPl w g) (o : Obj) : IsPl (w.alloc o) g := h.elim fun l ⟨s, p, b, h⟩ => ⟨l, s, p, b, h.alloc o⟩
theorem IsPl.drew {w : World} {g : Nat} (h : IsPl w g) : IsPl w.drew g := h
theorem IsPl.row {w : World} {g g' : Nat} {l s p b : Int} (h : IsPl w g) : IsPl (w.setRow g' #[Value.int IntKind.i64 l, Value.int IntKind.i64 s, Value.int IntKind.i64 p, Value.int IntKind.i64 b]) g := by
  obtain ⟨l, s, p, b, h⟩ := h
  by_cases e : g = g'
  · subst e; exact ⟨_, _, _, _, h.put⟩
  · exact ⟨l, s, p, b, h.past e⟩
theorem run_store_is {w : World} {g : Nat} {l s p b : Int} (h : IsPl w g) : (planStore (.pointer (some ⟨g, 0, none⟩)) (Value.agg #[Value.int IntKind.i64 l, Value.int IntKind.i64 s, Value.int IntKind.i64 p, Value.int IntKind.i64 b])).run Try.prog w = .ok () (w.setRow g #[Value.int IntKind.i64 l, Value.int IntKind.i64 s, Value.int IntKind.i64 p, Value.int IntKind.i64 b]) :=
  h.elim fun _ ⟨_, _, _, h⟩ => h.store
theorem put_at {w : World} {g g' : Nat} {l s p b : Int} (e : g = g') (h : IsPl w g) : Pq (w.setRow g' #[Value.int IntKind.i64 l, Value.int IntKind.i64 s, Value.int IntKind.i64 p, Value.int IntKind.i64 b]) g l s p b := by subst e; exact h.elim fun _ ⟨_, _, _, h⟩ => h.put
theorem Pq.setl {w : World} {g : Nat} {l s p b : Int} (h : Pq w g l s p b) (x : Int) : Pq (w.setCell ⟨g, 0, none⟩ (.int .i64 x)) g x s p b := Whole.set_ h 0 (.int .i64 x)
theorem Pq.sets {w : World} {g : Nat} {l s p b : Int} (h : Pq w g l s p b) (x : Int) : Pq (w.setCell ⟨g, 1, none⟩ (.int .i64 x)) g l x p b := Whole.set_ h 1 (.int .i64 x)
theorem Pq.setp {w : World} {g : Nat} {l s p b : Int} (h : Pq w g l s p b) (x : Int) : Pq (w.setCell ⟨g, 2, none⟩ (.int .i64 x)) g l s x b := Whole.set_ h 2 (.int .i64 x)
theorem Pq.setb {w : World} {g : Nat} {l s p b : Int} (h : Pq w g l s p b) (x : Int) : Pq (w.setCell ⟨g, 3, none⟩ (.int .i64 x)) g l s p x := Whole.set_ h 3 (.int .i64 x)
theorem Pq.other {w : World} {g : Nat} {l s p b : Int} (h : Pq w g l s p b) {q : Addr} (hq : g ≠ q.block) (u : Value) : Pq (w.setCell q u) g l s p b := Whole.other h hq u
theorem Pq.c2 {w : World} {g : Nat} {l s p b : Int} (h : Pq w g l s p b) : w.cell? ⟨g, 2, none⟩ = some (.int .i64 p) := Whole.at_ h 2
theorem Pq.c3 {w : World} {g : Nat} {l s p b : Int} (h : Pq w g l s p b) : w.cell? ⟨g, 3, none⟩ = some (.int .i64 b) := Whole.at_ h 3
theorem Pq.free {w : World} {g : Nat} {l s p b : Int} (h : Pq w g l s p b) (i : Nat) : w.frozen? ⟨g, i, none⟩ = false := Whole.free h i
end Go.Proofs.Ytegbeolnlpgdeaa
