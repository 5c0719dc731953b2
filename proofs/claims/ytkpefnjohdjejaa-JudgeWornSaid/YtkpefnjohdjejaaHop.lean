/-
  An operation (api.Op), by value, in a variable, in a slice: how it came in, how it reads.
-/
import Derived.Test.YtkpefnjohdjejaaZmb
import Derived.Deep.WholeRow
import Derived.SizedLaws
namespace Go.Proofs.Ytkpefnjohdjejaa
set_option maxRecDepth 100000
open Go.ChangeShapes Go.WideShapes Go.ChangeAt Go.RowKit

structure Px where
  d : Int
  o : Int
  nn : Int
  msk : Int
  v : Value
  bl : List Int
instance : Inhabited Px := ⟨⟨0, 0, 0, 0, .slice none 0 0, []⟩⟩
def Px.cells (x : Px) : List Value := [.int .i64 x.d, .int .i64 x.o, .int .i64 x.nn, .int .i64 x.msk, x.v]
def pxc (x : Px) : Array Value := x.cells.toArray
structure Px.Wf (W : World) (x : Px) : Prop where
  wd : (Lit.int .i64 x.d).wf = true
  wo : (Lit.int .i64 x.o).wf = true
  wn : (Lit.int .i64 x.nn).wf = true
  wm : (Lit.int .i64 x.msk).wf = true
  one : x.v.oneCell' = true
  rv : RA byE W x.v x.bl

theorem cells_hop : Try.prog.cellsOf 33 = 5 := by kernel_rfl
theorem cells_int_h : Try.prog.cellsOf 3 = 1 := by kernel_rfl
theorem cells_bs_h : Try.prog.cellsOf 31 = 1 := by kernel_rfl
theorem info_hop : (Try.prog.info? 33).map (·.size) = some 5 := by kernel_rfl
theorem trod_fiveh {H : Type} {enc : TypeId × Value → H} {P : Program} {w : World} {base : Nat} {spare : Nat → Bool} {held : Bool} {t : TypeId} {f0 f1 f2 f3 f4 : Field} {fuel : Nat} {cs : List Value} {x : DataW H × List MemPlace}
    (ht : P.underlying t = some (.struct #[f0, f1, f2, f3, f4])) (h : DataW.trod enc P w base spare held fuel t cs = some x) :
    ∃ y0 y1 y2 y3 y4 n, cs.length = P.cellsOf t ∧ DataW.trod enc P w base spare held n f0.type ((cs.drop f0.offset).take (P.cellsOf f0.type)) = some y0 ∧
      DataW.trod enc P w base spare held n f1.type ((cs.drop f1.offset).take (P.cellsOf f1.type)) = some y1 ∧ DataW.trod enc P w base spare held n f2.type ((cs.drop f2.offset).take (P.cellsOf f2.type)) = some y2 ∧
      DataW.trod enc P w base spare held n f3.type ((cs.drop f3.offset).take (P.cellsOf f3.type)) = some y3 ∧ DataW.trod enc P w base spare held n f4.type ((cs.drop f4.offset).take (P.cellsOf f4.type)) = some y4 := by
  obtain ⟨xs, n, _, rfl, hl, hlen, hf⟩ := DataW.trod_struct ht h
  match xs, hlen with
  | [y0, y1, y2, y3, y4], _ => exact ⟨y0, y1, y2, y3, y4, n, hl, by simpa using hf 0 f0 rfl, by simpa using hf 1 f1 rfl, by simpa using hf 2 f2 rfl, by simpa using hf 3 f3 rfl, by simpa using hf 4 f4 rfl⟩
theorem byte_elh {H : Type} {enc : TypeId × Value → H} {W : World} {base n : Nat} {sp : Nat → Bool} {held : Bool} {c : List Value} {y : DataW H × List MemPlace} (hy : DataW.trod enc Try.prog W base sp held n 5 c = some y) : ∃ a, c = byE.enc a ∧ byE.ok a := by
  obtain ⟨i, e0, _, w0⟩ := DataW.trod_int Try.underlying5 hy
  refine ⟨i, e0, ?_⟩
  have : 0 ≤ i ∧ i ≤ 255 := by simpa [Lit.wf, IntKind.min, IntKind.max, IntKind.signed, IntKind.bits] using w0
  show By i
  unfold By; omega
theorem hop_cells {H : Type} {enc : TypeId × Value → H} {W : World} {n : Nat} {sp : Nat → Bool} {held : Bool} {cs : List Value} {y : DataW H × List MemPlace}
    (h : DataW.trod enc Try.prog W 0 sp held n 33 cs = some y) : ∃ c : Px, cs = c.cells ∧ c.Wf W := by
  obtain ⟨y0, y1, y2, y3, y4, k, hl, g0, g1, g2, g3, g4⟩ := trod_fiveh Try.underlying33 h
  rw [cells_hop] at hl
  dsimp only at g0 g1 g2 g3 g4
  rw [cells_int_h] at g0 g1 g2 g3
  rw [cells_bs_h] at g4
  obtain ⟨d, e0, _, w0⟩ := DataW.trod_int Try.underlying3 g0
  obtain ⟨o, e1, _, w1⟩ := DataW.trod_int Try.underlying3 g1
  obtain ⟨i, e2, _, w2⟩ := DataW.trod_int Try.underlying3 g2
  obtain ⟨m, e3, _, w3⟩ := DataW.trod_int Try.underlying3 g3
  obtain ⟨u, l, e4, hr⟩ := elems_in byE g4 (fun _ _ _ hy _ => byte_elh hy)
  obtain ⟨q, c, eu, _⟩ := ra_shape hr
  refine ⟨⟨d, o, i, m, u, l⟩, ?_, ⟨w0, w1, w2, w3, by rw [eu]; rfl, hr⟩⟩
  match cs, hl with
  | [c0, c1, c2, c3, c4], _ =>
    simp at e0 e1 e2 e3 e4
    simp [Px.cells, e0, e1, e2, e3, e4]
theorem hop_in {H : Type} {enc : TypeId × Value → H} {W : World} {base : Nat} {v : Value} {d : DataW H} {p : List MemPlace}
    (hval : Value.okWide Try.prog W .any base 33 v) (h : DataW.Trod enc Try.prog W 0 (fun _ => true) true 33 v d p) : ∃ c : Px, v = .agg (pxc c) ∧ c.Wf W := by
  obtain ⟨cs, rfl, hsz, _⟩ : ∃ cs, v = .agg cs ∧ cs.size = Try.prog.cellsOf 33 ∧ Row.okWide Try.prog W .any base 33 cs := by
    simpa [Value.okWide, Try.underlying33] using hval
  obtain ⟨fuel, hf⟩ := h
  obtain ⟨c, hc, hw⟩ := hop_cells hf
  refine ⟨c, ?_, hw⟩
  have : cs.toList = c.cells := by simpa [Value.cells] using hc
  rw [pxc, ← this]

theorem bytes_hop : Try.prog.bytesOf 33 = 56 := by kernel_rfl
@[go_sem] theorem pxc_ne (x : Px) : (pxc x = #[]) = False := by simp [pxc, Px.cells]
theorem pxc_size (x : Px) : (pxc x).size = 5 := rfl
/-- block g holds it -/
def Pxv (w : World) (g : Nat) (x : Px) : Prop := Whole w g 33 (pxc x)
section
variable {w w' : World} {g : Nat} {x : Px}
theorem Pxv.lt (h : Pxv w g x) : g < w.heap.size := Whole.lt h
theorem Pxv.below (h : Pxv w g x) (hb : Below w.heap.size w w') : Pxv w' g x := (hb.block g (Whole.lt h)).trans h
theorem Pxv.chg {D : List Nat} (h : Pxv w g x) (hb : Chg D w w') (hg : g ∉ D) : Pxv w' g x := hb.whole h hg
theorem Pxv.new (w : World) (x : Px) : Pxv (w.alloc (.cells (pxc x) 33)) w.heap.size x := heap_alloc_new w _
theorem Pxv.c0 (h : Pxv w g x) : w.cell? ⟨g, 0, none⟩ = some (.int .i64 x.d) := Whole.at_ h 0
theorem Pxv.c1 (h : Pxv w g x) : w.cell? ⟨g, 1, none⟩ = some (.int .i64 x.o) := Whole.at_ h 1
theorem Pxv.c2 (h : Pxv w g x) : w.cell? ⟨g, 2, none⟩ = some (.int .i64 x.nn) := Whole.at_ h 2
theorem Pxv.c4 (h : Pxv w g x) : w.cell? ⟨g, 4, none⟩ = some x.v := Whole.at_ h 4
end
def pxLoad (p : Value) : Sem Value := Instr.loadAt 33 p
def pxStore (p v : Value) : Sem Unit := Instr.storeAt 33 p v
@[go_sem ↓] theorem loadAt_px (p : Value) : Instr.loadAt 33 p = pxLoad p := rfl
@[go_sem ↓] theorem storeAt_px (p v : Value) : Instr.storeAt 33 p v = pxStore p v := rfl
theorem run_pxLoad {w : World} {b o : Nat} {c : Px} (h : w.rangeAt b o c.cells) : (pxLoad (.pointer (some ⟨b, o, none⟩))).run Try.prog w = .ok (.agg (pxc c)) w :=
  run_loadAt_mid (P := Try.prog) w b o 33 c.cells _ h Try.underlying33 rfl info_hop
theorem run_pxStore (w : World) {z : Array Value} (hz : z.size = 5) (c : Px) (h1 : c.v.oneCell' = true) :
    (pxStore (.pointer (some ⟨w.heap.size, 0, none⟩)) (.agg (pxc c))).run Try.prog (w.alloc (.cells z 33)) = .ok () (w.alloc (.cells (pxc c) 33)) := by
  unfold pxStore
  simp only [Instr.storeAt, Instr.sureAddr, Sem.run_bind, Sem.run_pure, Result.andThen]
  rw [run_storeVar_row _ _ 33 33 z (pxc c) (heap_alloc_new w _) (by rw [info_hop, pxc_size]) (by rw [hz, pxc_size]) (by simpa [pxc, Px.cells, Value.oneCell'] using h1), World.setRow_alloc_new]
theorem px_boxed (w : World) (c : Px) (h1 : c.v.oneCell' = true) : ∃ W, w.alloc (.cells (pxc c) 33) = W ∧ (pxStore (.pointer (some ⟨w.heap.size, 0, none⟩)) (.agg (pxc c))).run Try.prog (w.alloc (.cells #[.int .i64 0, .int .i64 0, .int .i64 0, .int .i64 0, .slice none 0 0] 33)) = .ok () W ∧ Hid (Pxv W w.heap.size c ∧ Below w.heap.size w W) :=
  ⟨_, rfl, run_pxStore w rfl c h1, Lib.hid ⟨Pxv.new w c, bal (Below.refl _ _)⟩⟩
end Go.Proofs.Ytkpefnjohdjejaa
