/-
  A call of a script in a variable: loads of it, and of its parts.
-/
import Derived.Test.YtomodoofpjgpgaaCal
namespace Go.Proofs.Ytomodoofpjgpgaa
open Go.ChangeShapes Go.WideShapes Go.ChangeAt Go.RowKit

theorem Cl.cells_length {c : Cl} (h : c.l.length = 8) : c.cells.length = 12 := by simp [Cl.cells, h]
theorem Cl.cells_l {c : Cl} (h : c.l.length = 8) {j : Nat} (hj : j < 8) : c.cells[3 + j]? = some (.int .u64 (c.l.getD j 0)) := by
  rw [Nat.add_comm]
  simp [Cl.cells, uv, h, hj, List.getElem?_append]
theorem Cl.cells_v {c : Cl} (h : c.l.length = 8) : c.cells[11]? = some (.int .u64 c.v) := by simp [Cl.cells, h]
@[go_sem] theorem cc_ne (c : Cl) : (cc c = #[]) = False := by simp [cc, Cl.cells]
theorem cc_size {c : Cl} (h : c.l.length = 8) : (cc c).size = 12 := by simp [cc, Cl.cells_length h]
theorem cc_one (c : Cl) : (cc c).all (·.oneCell') = true := by
  simp [cc, Cl.cells, uv, Value.oneCell']

/-- block g holds the call c -/
def Cv (w : World) (g : Nat) (c : Cl) : Prop := Whole w g 33 (cc c) ∧ c.l.length = 8
theorem Cv.below {w w' : World} {g : Nat} {c : Cl} (h : Cv w g c) (hb : Below w.heap.size w w') : Cv w' g c := ⟨(hb.block g h.1.lt).trans h.1, h.2⟩
theorem Cv.chg {D : List Nat} {w w' : World} {g : Nat} {c : Cl} (h : Cv w g c) (hb : Chg D w w') (hg : g ∉ D) : Cv w' g c := ⟨hb.whole h.1 hg, h.2⟩
theorem Cv.new (w : World) {c : Cl} (h : c.l.length = 8) : Cv (w.alloc (.cells (cc c) 33)) w.heap.size c := ⟨heap_alloc_last w _, h⟩
theorem Cv.alloc {w : World} {g : Nat} {c : Cl} (h : Cv w g c) (o : Obj) : Cv (w.alloc o) g c := ⟨h.1.alloc o, h.2⟩
theorem Cv.drewN {w : World} {g : Nat} {c : Cl} (h : Cv w g c) (n : Nat) : Cv (w.drewN n) g c := h
theorem Cv.at_ {w : World} {g : Nat} {c : Cl} (h : Cv w g c) (k : Nat) : w.cell? ⟨g, k, none⟩ = c.cells[k]? := by
  rw [h.1.at_]; simp [cc]
/-- its numbers -/
theorem Cv.nums {w : World} {g : Nat} {c : Cl} (h : Cv w g c) : w.cell? ⟨g, 0, none⟩ = some (.int .i64 c.d) ∧ w.cell? ⟨g, 1, none⟩ = some (.int .i64 c.i) ∧ w.cell? ⟨g, 2, none⟩ = some (.int .i64 c.n) ∧ w.cell? ⟨g, 11, none⟩ = some (.int .u64 c.v) :=
  ⟨by rw [h.at_]; rfl, by rw [h.at_]; rfl, by rw [h.at_]; rfl, by rw [h.at_, Cl.cells_v h.2]⟩
/-- its line -/
theorem Cv.line {w : World} {g : Nat} {c : Cl} (h : Cv w g c) : (lineLoad (.pointer (some ⟨g, 3, none⟩))).run Try.prog w = .ok (.agg (lc c.l)) w := by
  unfold lineLoad
  exact run_loadAt_mid (P := Try.prog) w g 3 31 (c.l.map uv) _ (fun j v hv => by
    have hj : j < 8 := by
      have := (List.getElem?_eq_some_iff.1 hv).1
      simpa [h.2] using this
    rw [h.at_, Cl.cells_l h.2 hj, ← hv]
    simp [uv, h.2, hj]) Try.underlying31 rfl (by rw [info_line]; simp [h.2])

/-- a whole call loaded, stored -/
def callLoad (p : Value) : Sem Value := Instr.loadAt 33 p
def callStore (p v : Value) : Sem Unit := Instr.storeAt 33 p v
@[go_sem ↓] theorem loadAt_call (p : Value) : Instr.loadAt 33 p = callLoad p := rfl
@[go_sem ↓] theorem storeAt_call (p v : Value) : Instr.storeAt 33 p v = callStore p v := rfl
theorem run_callLoad {w : World} {b o : Nat} {c : Cl} (h : w.rangeAt b o c.cells) (hl : c.l.length = 8) : (callLoad (.pointer (some ⟨b, o, none⟩))).run Try.prog w = .ok (.agg (cc c)) w :=
  run_loadAt_mid (P := Try.prog) w b o 33 c.cells _ h Try.underlying33 rfl (by rw [info_call, Cl.cells_length hl])
theorem run_callStore (w : World) {z : Array Value} (hz : z.size = 12) {c : Cl} (hl : c.l.length = 8) :
    (callStore (.pointer (some ⟨w.heap.size, 0, none⟩)) (.agg (cc c))).run Try.prog (w.alloc (.cells z 33)) = .ok () (w.alloc (.cells (cc c) 33)) := by
  unfold callStore
  simp only [Instr.storeAt, Instr.sureAddr, Sem.run_bind, Sem.run_pure, Result.andThen]
  rw [run_storeVar_row _ _ 33 33 z (cc c) (heap_alloc_last w _) (by rw [info_call, cc_size hl]) (by rw [hz, cc_size hl]) (cc_one c), World.setRow_alloc_new]
@[go_sem] theorem call_store_new (w : World) (c : Cl) (hl : c.l.length = 8) :
    (callStore (.pointer (some ⟨w.heap.size, 0, none⟩)) (.agg (cc c))).run Try.prog (w.alloc (.cells #[.int .i64 0, .int .i64 0, .int .i64 0, .int .u64 0, .int .u64 0, .int .u64 0, .int .u64 0, .int .u64 0, .int .u64 0, .int .u64 0, .int .u64 0, .int .u64 0] 33)) = .ok () (w.alloc (.cells (cc c) 33)) :=
  run_callStore w rfl hl
/-- the k-th call of a slice -/
theorem rc_at {w : World} {p : Option Addr} {n cap : Nat} {l : List Cl} (h : RC w (.slice p n cap) l) {k : Nat} (hk : k < l.length) :
    ∃ b off, p = some ⟨b, off, none⟩ ∧ b < w.heap.size ∧ (callLoad (.pointer (some ⟨b, off + k * 12, none⟩))).run Try.prog w = .ok (.agg (cc (l.getD k default))) w ∧ (l.getD k default).Wf := by
  obtain ⟨q, c, e, _, _, hw, rfl | ⟨b, off, rfl, hb, hr⟩⟩ := h
  · simp at hk
  · cases e
    exact ⟨b, off, rfl, hb, run_callLoad (hr k hk) (hw k hk).len, hw k hk⟩
theorem rc_shape {w : World} {v : Value} {l : List Cl} (h : RC w v l) : ∃ p cap, v = .slice p l.length cap ∧ l.length ≤ cap ∧ cap ≤ maxLen := by
  obtain ⟨p, cap, e, h1, h2, _⟩ := h
  exact ⟨p, cap, e, h1, h2⟩
end Go.Proofs.Ytomodoofpjgpgaa
