/-
  Answers (api.Ans): by value, in a variable; built.
-/
import Derived.Test.YtkpefnjohdjejaaHop
namespace Go.Proofs.Ytkpefnjohdjejaa
set_option maxRecDepth 100000
open Go.ChangeShapes Go.WideShapes Go.ChangeAt Go.RowKit

/-- answers -/
theorem info_ans : (Try.prog.info? 36).map (·.size) = some 3 := by kernel_rfl
def anc (e o : Int) (v : Value) : Array Value := #[.int .i64 e, .int .i64 o, v]
theorem anc_size (e o : Int) (v : Value) : (anc e o v).size = 3 := rfl
@[go_sem] theorem anc_ne (e o : Int) (v : Value) : (anc e o v = #[]) = False := by simp [anc]
def anLoad (p : Value) : Sem Value := Instr.loadAt 36 p
def anStore (p v : Value) : Sem Unit := Instr.storeAt 36 p v
@[go_sem ↓] theorem loadAt_an (p : Value) : Instr.loadAt 36 p = anLoad p := rfl
@[go_sem ↓] theorem storeAt_an (p v : Value) : Instr.storeAt 36 p v = anStore p v := rfl
/-- block g holds one -/
def Anv (w : World) (g : Nat) (e o : Int) (v : Value) : Prop := Whole w g 36 (anc e o v)
section
variable {w w' : World} {g : Nat} {e o e' o' : Int} {v v' : Value}
theorem Anv.lt (h : Anv w g e o v) : g < w.heap.size := Whole.lt h
theorem Anv.below (h : Anv w g e o v) (hb : Below w.heap.size w w') : Anv w' g e o v := (hb.block g (Whole.lt h)).trans h
theorem Anv.chg {D : List Nat} (h : Anv w g e o v) (hc : Chg D w w') (hg : g ∉ D) : Anv w' g e o v := hc.whole h hg
theorem Anv.new (w : World) (e o : Int) (v : Value) : Anv (w.alloc (.cells (anc e o v) 36)) w.heap.size e o v := heap_alloc_new w _
theorem Anv.c0 (h : Anv w g e o v) : w.cell? ⟨g, 0, none⟩ = some (.int .i64 e) := Whole.at_ h 0
theorem Anv.c1 (h : Anv w g e o v) : w.cell? ⟨g, 1, none⟩ = some (.int .i64 o) := Whole.at_ h 1
theorem Anv.c2 (h : Anv w g e o v) : w.cell? ⟨g, 2, none⟩ = some v := Whole.at_ h 2
theorem Anv.load (h : Anv w g e o v) : (anLoad (.pointer (some ⟨g, 0, none⟩))).run Try.prog w = .ok (.agg (anc e o v)) w :=
  run_loadAt_mid (P := Try.prog) w g 0 36 [.int .i64 e, .int .i64 o, v] _ (fun j u hj => by rw [Whole.at_ h, Nat.zero_add, ← hj]; simp [anc]) Try.underlying36 rfl info_ans
theorem Anv.store (h : Anv w g e o v) (h1 : v'.oneCell' = true) : (anStore (.pointer (some ⟨g, 0, none⟩)) (.agg (anc e' o' v'))).run Try.prog w = .ok () (w.setRow g (anc e' o' v')) := by
  unfold anStore
  simp only [Instr.storeAt, Instr.sureAddr, Sem.run_bind, Sem.run_pure, Result.andThen]
  exact run_storeVar_row w g 36 36 (anc e o v) (anc e' o' v') h (by rw [info_ans]; rfl) rfl (by have a : ∀ k i, (Value.int k i).oneCell' = true := fun _ _ => rfl; simp [anc, h1, a])
theorem Anv.put (h : Anv w g e o v) : Anv (w.setRow g (anc e' o' v')) g e' o' v' := by
  have q : w.heap[g]? = some (.cells (anc e o v) 36 (0, 0)) := h
  unfold Anv Whole
  simp [World.setRow, Array.getElem?_modify, q]
end
def anBuild (ps : Array (Nat × Value)) : Sem Value := Instr.build 36 ps
@[go_sem ↓] theorem build_an (ps : Array (Nat × Value)) : Instr.build 36 ps = anBuild ps := rfl
theorem built_an0 (e : Int) : Try.prog.built 36 [(0, .int .i64 e)] = some (anc e 0 (.slice none 0 0)) := by kernel_rfl
theorem built_an1 (o : Int) : Try.prog.built 36 [(1, .int .i64 o)] = some (anc 0 o (.slice none 0 0)) := by kernel_rfl
theorem built_an01 (e o : Int) : Try.prog.built 36 [(0, .int .i64 e), (1, .int .i64 o)] = some (anc e o (.slice none 0 0)) := by kernel_rfl
theorem built_an02 (e : Int) (p : Option Addr) (n c : Nat) : Try.prog.built 36 [(0, .int .i64 e), (2, .slice p n c)] = some (anc e 0 (.slice p n c)) := by kernel_rfl
@[go_sem] theorem run_anBuild0 (w : World) (e : Int) : (anBuild #[(0, .int .i64 e)]).run Try.prog w = .ok (.agg (anc e 0 (.slice none 0 0))) w := run_build w _ _ _ (built_an0 e)
@[go_sem] theorem run_anBuild1 (w : World) (o : Int) : (anBuild #[(1, .int .i64 o)]).run Try.prog w = .ok (.agg (anc 0 o (.slice none 0 0))) w := run_build w _ _ _ (built_an1 o)
@[go_sem] theorem run_anBuild01 (w : World) (e o : Int) : (anBuild #[(0, .int .i64 e), (1, .int .i64 o)]).run Try.prog w = .ok (.agg (anc e o (.slice none 0 0))) w := run_build w _ _ _ (built_an01 e o)
@[go_sem] theorem run_anBuild02 (w : World) (e : Int) (p : Option Addr) (n c : Nat) : (anBuild #[(0, .int .i64 e), (2, .slice p n c)]).run Try.prog w = .ok (.agg (anc e 0 (.slice p n c))) w := run_build w _ _ _ (built_an02 e p n c)
/-- an answer in a variable that was just made -/
theorem an_boxed (w : World) (e o : Int) {v : Value} (h1 : v.oneCell' = true) : ∃ W, w.alloc (.cells (anc e o v) 36) = W ∧ (anStore (.pointer (some ⟨w.heap.size, 0, none⟩)) (.agg (anc e o v))).run Try.prog (w.alloc (.cells #[.int .i64 0, .int .i64 0, .slice none 0 0] 36)) = .ok () W ∧ Hid (Anv W w.heap.size e o v ∧ Below w.heap.size w W) := by
  refine ⟨_, rfl, ?_, Lib.hid ⟨Anv.new w e o v, bal (Below.refl _ _)⟩⟩
  have h : Anv (w.alloc (.cells #[.int .i64 0, .int .i64 0, .slice none 0 0] 36)) w.heap.size 0 0 (.slice none 0 0) := Anv.new w 0 0 _
  rw [h.store (e' := e) (o' := o) h1, World.setRow_alloc_new]
end Go.Proofs.Ytkpefnjohdjejaa
