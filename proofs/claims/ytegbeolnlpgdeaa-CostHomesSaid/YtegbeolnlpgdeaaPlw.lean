/-
  Package plan by plain functions of the plan; a plan that comes in; 'awake' of layer 11's statements.
-/
import Derived.Test.YtegbeolnlpgdeaaPlc
namespace Go.Proofs.Ytegbeolnlpgdeaa
set_option maxRecDepth 100000
open Go.ChangeShapes Go.WideShapes Go.ChangeAt Go.RowKit


/-- words, pages, logical lines, lines of the device, where a line is -/
def wdM (l : Int) : Int := l * 8
def pgM (l : Int) : Int := (l + 3) / 4
def lgM (l : Int) : Int := 16 + l
def dvM (l s : Int) : Int := 17 + l + s
def hmM (l i : Int) : Int := if 0 ≤ i ∧ i < l then 16 + i else -1
def pageM (i : Int) : Int := i / 4


/-- a plan's variable, read in every later world -/
theorem Pq.later {w : World} {g : Nat} {l s p b : Int} (h : Pq w g l s p b) : ∀ w' : World, Below w.heap.size w w' → (planLoad (.pointer (some ⟨g, 0, none⟩))).run Try.prog w' = .ok (Value.agg #[Value.int IntKind.i64 l, Value.int IntKind.i64 s, Value.int IntKind.i64 p, Value.int IntKind.i64 b]) w' := fun _ hb => (h.below hb).load
theorem Pq.later0 {w : World} {g : Nat} {l s p b : Int} (h : Pq w g l s p b) : ∀ w' : World, Below w.heap.size w w' → w'.cell? ⟨g, 0, none⟩ = some (.int .i64 l) := fun _ hb => (h.below hb).c0
theorem Pq.later1 {w : World} {g : Nat} {l s p b : Int} (h : Pq w g l s p b) : ∀ w' : World, Below w.heap.size w w' → w'.cell? ⟨g, 1, none⟩ = some (.int .i64 s) := fun _ hb => (h.below hb).c1


theorem trod_struct4 {H : Type} {enc : TypeId × Value → H} {P : Program} {w : World} {base : Nat} {spare : Nat → Bool} {held : Bool} {t : TypeId} {f0 f1 f2 f3 : Field} {fuel : Nat} {cs : List Value} {x : DataW H × List MemPlace}
    (ht : P.underlying t = some (.struct #[f0, f1, f2, f3])) (h : DataW.trod enc P w base spare held fuel t cs = some x) :
    ∃ y0 y1 y2 y3 n, cs.length = P.cellsOf t ∧ DataW.trod enc P w base spare held n f0.type ((cs.drop f0.offset).take (P.cellsOf f0.type)) = some y0 ∧
      DataW.trod enc P w base spare held n f1.type ((cs.drop f1.offset).take (P.cellsOf f1.type)) = some y1 ∧ DataW.trod enc P w base spare held n f2.type ((cs.drop f2.offset).take (P.cellsOf f2.type)) = some y2 ∧
      DataW.trod enc P w base spare held n f3.type ((cs.drop f3.offset).take (P.cellsOf f3.type)) = some y3 := by
  obtain ⟨xs, n, _, rfl, hl, hlen, hf⟩ := DataW.trod_struct ht h
  match xs, hlen with
  | [y0, y1, y2, y3], _ => exact ⟨y0, y1, y2, y3, n, hl, by simpa using hf 0 f0 rfl, by simpa using hf 1 f1 rfl, by simpa using hf 2 f2 rfl, by simpa using hf 3 f3 rfl⟩

theorem cells_plan : Try.prog.cellsOf 26 = 4 := by kernel_rfl
theorem cells_int1 : Try.prog.cellsOf 3 = 1 := by kernel_rfl
/-- a plan that came in -/
theorem plan_in {H : Type} {enc : TypeId × Value → H} {W : World} {base : Nat} {v : Value} {d : DataW H} {q : List MemPlace}
    (hval : Value.okWide Try.prog W .any base 26 v) (h : DataW.Trod enc Try.prog W 0 (fun _ => true) true 26 v d q) :
    ∃ l s p b : Int, v = (Value.agg #[Value.int IntKind.i64 l, Value.int IntKind.i64 s, Value.int IntKind.i64 p, Value.int IntKind.i64 b]) ∧ (Lit.int .i64 l).wf = true ∧ (Lit.int .i64 s).wf = true ∧ (Lit.int .i64 p).wf = true ∧ (Lit.int .i64 b).wf = true := by
  obtain ⟨cs, rfl, hsz, _⟩ : ∃ cs, v = .agg cs ∧ cs.size = Try.prog.cellsOf 26 ∧ Row.okWide Try.prog W .any base 26 cs := by
    simpa [Value.okWide, Try.underlying26] using hval
  obtain ⟨fuel, hf⟩ := h
  obtain ⟨y0, y1, y2, y3, k, hl, g0, g1, g2, g3⟩ := trod_struct4 Try.underlying26 hf
  rw [cells_plan] at hl
  dsimp only at g0 g1 g2 g3
  rw [cells_int1] at g0 g1 g2 g3
  obtain ⟨l, e0, _, w0⟩ := DataW.trod_int Try.underlying3 g0
  obtain ⟨s, e1, _, w1⟩ := DataW.trod_int Try.underlying3 g1
  obtain ⟨p, e2, _, w2⟩ := DataW.trod_int Try.underlying3 g2
  obtain ⟨b, e3, _, w3⟩ := DataW.trod_int Try.underlying3 g3
  refine ⟨l, s, p, b, ?_, w0, w1, w2, w3⟩
  obtain ⟨cl⟩ := cs
  simp [Value.cells] at hl e0 e1 e2 e3
  match cl, hl with
  | [c0, c1, c2, c3], _ =>
    simp at e0 e1 e2 e3
    simp [e0, e1, e2, e3]
end Go.Proofs.Ytegbeolnlpgdeaa
