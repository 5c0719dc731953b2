/-
  What is done to a model (the statement's Op), by value, in a variable, in a slice: how it came in, how it reads.
-/
import Derived.Test.YtlhpcimbigfmkaaZmb
import Derived.Deep.WholeRow
import Derived.SizedLaws
namespace Go.Proofs.Ytlhpcimbigfmkaa
set_option maxRecDepth 100000
open Go.ChangeShapes Go.WideShapes Go.ChangeAt Go.RowKit

structure Qx where
  d : Int
  nn : Int
  o : Int
  v : Value
  bl : List Int
instance : Inhabited Qx := ⟨⟨0, 0, 0, .slice none 0 0, []⟩⟩
def Qx.cells (x : Qx) : List Value := [.int .i64 x.d, .int .i64 x.nn, .int .i64 x.o, x.v]
def qc (x : Qx) : Array Value := x.cells.toArray
structure Qx.Wf (W : World) (x : Qx) : Prop where
  wd : (Lit.int .i64 x.d).wf = true
  wn : (Lit.int .i64 x.nn).wf = true
  wo : (Lit.int .i64 x.o).wf = true
  one : x.v.oneCell' = true
  rv : RA byE W x.v x.bl

theorem cells_mop : Try.prog.cellsOf 35 = 4 := by kernel_rfl
theorem cells_int_q : Try.prog.cellsOf 3 = 1 := by kernel_rfl
theorem cells_bs_q : Try.prog.cellsOf 33 = 1 := by kernel_rfl
theorem info_mop : (Try.prog.info? 35).map (·.size) = some 4 := by kernel_rfl
theorem trod_four {H : Type} {enc : TypeId × Value → H} {P : Program} {w : World} {base : Nat} {spare : Nat → Bool} {held : Bool} {t : TypeId} {f0 f1 f2 f3 : Field} {fuel : Nat} {cs : List Value} {x : DataW H × List MemPlace}
    (ht : P.underlying t = some (.struct #[f0, f1, f2, f3])) (h : DataW.trod enc P w base spare held fuel t cs = some x) :
    ∃ y0 y1 y2 y3 n, cs.length = P.cellsOf t ∧ DataW.trod enc P w base spare held n f0.type ((cs.drop f0.offset).take (P.cellsOf f0.type)) = some y0 ∧
      DataW.trod enc P w base spare held n f1.type ((cs.drop f1.offset).take (P.cellsOf f1.type)) = some y1 ∧ DataW.trod enc P w base spare held n f2.type ((cs.drop f2.offset).take (P.cellsOf f2.type)) = some y2 ∧
      DataW.trod enc P w base spare held n f3.type ((cs.drop f3.offset).take (P.cellsOf f3.type)) = some y3 := by
  obtain ⟨xs, n, _, rfl, hl, hlen, hf⟩ := DataW.trod_struct ht h
  match xs, hlen with
  | [y0, y1, y2, y3], _ => exact ⟨y0, y1, y2, y3, n, hl, by simpa using hf 0 f0 rfl, by simpa using hf 1 f1 rfl, by simpa using hf 2 f2 rfl, by simpa using hf 3 f3 rfl⟩
theorem byte_elq {H : Type} {enc : TypeId × Value → H} {W : World} {base n : Nat} {sp : Nat → Bool} {held : Bool} {c : List Value} {y : DataW H × List MemPlace} (hy : DataW.trod enc Try.prog W base sp held n 5 c = some y) : ∃ a, c = byE.enc a ∧ byE.ok a := by
  obtain ⟨i, e0, _, w0⟩ := DataW.trod_int Try.underlying5 hy
  refine ⟨i, e0, ?_⟩
  have : 0 ≤ i ∧ i ≤ 255 := by simpa [Lit.wf, IntKind.min, IntKind.max, IntKind.signed, IntKind.bits] using w0
  show By i
  unfold By; omega
theorem mop_cells {H : Type} {enc : TypeId × Value → H} {W : World} {n : Nat} {sp : Nat → Bool} {held : Bool} {cs : List Value} {y : DataW H × List MemPlace}
    (h : DataW.trod enc Try.prog W 0 sp held n 35 cs = some y) : ∃ c : Qx, cs = c.cells ∧ c.Wf W := by
  obtain ⟨y0, y1, y2, y3, k, hl, g0, g1, g2, g3⟩ := trod_four Try.underlying35 h
  rw [cells_mop] at hl
  dsimp only at g0 g1 g2 g3
  rw [cells_int_q] at g0 g1 g2
  rw [cells_bs_q] at g3
  obtain ⟨d, e0, _, w0⟩ := DataW.trod_int Try.underlying3 g0
  obtain ⟨i, e1, _, w1⟩ := DataW.trod_int Try.underlying3 g1
  obtain ⟨o, e2, _, w2⟩ := DataW.trod_int Try.underlying3 g2
  obtain ⟨u, l, e3, hr⟩ := elems_in byE g3 (fun _ _ _ hy _ => byte_elq hy)
  obtain ⟨q, c, eu, _⟩ := ra_shape hr
  refine ⟨⟨d, i, o, u, l⟩, ?_, ⟨w0, w1, w2, by rw [eu]; rfl, hr⟩⟩
  match cs, hl with
  | [c0, c1, c2, c3], _ =>
    simp at e0 e1 e2 e3
    simp [Qx.cells, e0, e1, e2, e3]
theorem mop_in {H : Type} {enc : TypeId × Value → H} {W : World} {base : Nat} {v : Value} {d : DataW H} {p : List MemPlace}
    (hval : Value.okWide Try.prog W .any base 35 v) (h : DataW.Trod enc Try.prog W 0 (fun _ => true) true 35 v d p) : ∃ c : Qx, v = .agg (qc c) ∧ c.Wf W := by
  obtain ⟨cs, rfl, hsz, _⟩ : ∃ cs, v = .agg cs ∧ cs.size = Try.prog.cellsOf 35 ∧ Row.okWide Try.prog W .any base 35 cs := by
    simpa [Value.okWide, Try.underlying35] using hval
  obtain ⟨fuel, hf⟩ := h
  obtain ⟨c, hc, hw⟩ := mop_cells hf
  refine ⟨c, ?_, hw⟩
  have : cs.toList = c.cells := by simpa [Value.cells] using hc
  rw [qc, ← this]
/-- slices of them -/
def qoE (W : World) : Elm Try.prog Qx where
  t := 22
  e := 35
  size := 4
  bytes := 48
  z := .agg #[.int .i64 0, .int .i64 0, .int .i64 0, .slice none 0 0]
  enc := Qx.cells
  ok := Qx.Wf W
  ht := Try.underlying22
  hi := by kernel_rfl
  hzs := rfl
  pos := by decide
  bpos := by decide
  len := fun _ _ => rfl
  one := fun a ha u hu => by
    simp only [Qx.cells, List.mem_cons, List.not_mem_nil, or_false] at hu
    rcases hu with rfl | rfl | rfl | rfl
    · rfl
    · rfl
    · rfl
    · exact ha.one
theorem mops_in {H : Type} {enc : TypeId × Value → H} {W : World} {base : Nat} {v : Value} {d : DataW H} {p : List MemPlace}
    (hval : Value.okWide Try.prog W .any base 22 v) (h : DataW.Trod enc Try.prog W 0 (fun _ => true) true 22 v d p) : ∃ l : List Qx, RA (qoE W) W v l := by
  obtain ⟨va, vl, vc, rfl⟩ := okWide_slice Try.underlying22 hval
  obtain ⟨fuel, hf⟩ := h
  obtain ⟨u, l, e, hr⟩ := elems_in (qoE W) hf (fun _ _ _ hy _ => mop_cells hy)
  have e' : Value.slice va vl vc = u := by simpa [Value.cells] using e
  exact ⟨l, by rw [e']; exact hr⟩

theorem bytes_mop : Try.prog.bytesOf 35 = 48 := by kernel_rfl
theorem mops_in_sized {H : Type} {enc : TypeId × Value → H} {W : World} {base : Nat} {v : Value} {d : DataW H} {p : List MemPlace}
    (hval : Value.okWide Try.prog W .any base 22 v) (h : DataW.Trod enc Try.prog W 0 (fun _ => true) true 22 v d p) {ts : List TypeId} {ds : List (DataW H)} {j : Nat}
    (htj : ts[j]? = some 22) (hd : ds[j]? = some d) (hsz : (DataW.weightsEach Try.prog ts ds).all (· ≤ reachBytes) = true) : ∃ l : List Qx, RA (qoE W) W v l ∧ l.length * 48 ≤ 140737488351232 := by
  obtain ⟨l, hl⟩ := mops_in hval h
  obtain ⟨q, c, rfl, _⟩ := ra_shape hl
  have := slice_sized Try.underlying22 h htj hd hsz
  rw [bytes_mop] at this
  exact ⟨l, hl, Nat.le_trans this (by decide)⟩
@[go_sem] theorem qc_ne (x : Qx) : (qc x = #[]) = False := by simp [qc, Qx.cells]
theorem qc_size (x : Qx) : (qc x).size = 4 := rfl
/-- block g holds it -/
def Qv (w : World) (g : Nat) (x : Qx) : Prop := Whole w g 35 (qc x)
section
variable {w w' : World} {g : Nat} {x : Qx}
theorem Qv.lt (h : Qv w g x) : g < w.heap.size := Whole.lt h
theorem Qv.below (h : Qv w g x) (hb : Below w.heap.size w w') : Qv w' g x := (hb.block g (Whole.lt h)).trans h
theorem Qv.chg {D : List Nat} (h : Qv w g x) (hb : Chg D w w') (hg : g ∉ D) : Qv w' g x := hb.whole h hg
theorem Qv.new (w : World) (x : Qx) : Qv (w.alloc (.cells (qc x) 35)) w.heap.size x := heap_alloc_new w _
theorem Qv.c0 (h : Qv w g x) : w.cell? ⟨g, 0, none⟩ = some (.int .i64 x.d) := Whole.at_ h 0
theorem Qv.c1 (h : Qv w g x) : w.cell? ⟨g, 1, none⟩ = some (.int .i64 x.nn) := Whole.at_ h 1
theorem Qv.c2 (h : Qv w g x) : w.cell? ⟨g, 2, none⟩ = some (.int .i64 x.o) := Whole.at_ h 2
theorem Qv.c3 (h : Qv w g x) : w.cell? ⟨g, 3, none⟩ = some x.v := Whole.at_ h 3
end
def qoLoad (p : Value) : Sem Value := Instr.loadAt 35 p
def qoStore (p v : Value) : Sem Unit := Instr.storeAt 35 p v
@[go_sem ↓] theorem loadAt_qo (p : Value) : Instr.loadAt 35 p = qoLoad p := rfl
@[go_sem ↓] theorem storeAt_qo (p v : Value) : Instr.storeAt 35 p v = qoStore p v := rfl
theorem run_qoLoad {w : World} {b o : Nat} {c : Qx} (h : w.rangeAt b o c.cells) : (qoLoad (.pointer (some ⟨b, o, none⟩))).run Try.prog w = .ok (.agg (qc c)) w :=
  run_loadAt_mid (P := Try.prog) w b o 35 c.cells _ h Try.underlying35 rfl info_mop
theorem run_qoStore (w : World) {z : Array Value} (hz : z.size = 4) (c : Qx) (h1 : c.v.oneCell' = true) :
    (qoStore (.pointer (some ⟨w.heap.size, 0, none⟩)) (.agg (qc c))).run Try.prog (w.alloc (.cells z 35)) = .ok () (w.alloc (.cells (qc c) 35)) := by
  unfold qoStore
  simp only [Instr.storeAt, Instr.sureAddr, Sem.run_bind, Sem.run_pure, Result.andThen]
  rw [run_storeVar_row _ _ 35 35 z (qc c) (heap_alloc_new w _) (by rw [info_mop, qc_size]) (by rw [hz, qc_size]) (by simpa [qc, Qx.cells, Value.oneCell'] using h1), World.setRow_alloc_new]
/-- the k-th of a slice: loaded whole -/
theorem qo_at {W w : World} {p : Option Addr} {n cap : Nat} {l : List Qx} (h : RA (qoE W) w (.slice p n cap) l) (h0 : 0 < l.length) :
    ∃ b off, p = some ⟨b, off, none⟩ ∧ b < w.heap.size ∧ ∀ k, k < l.length → (qoLoad (.pointer (some ⟨b, off + k * 4, none⟩))).run Try.prog w = .ok (.agg (qc (l.getD k default))) w ∧ (l.getD k default).Wf W := by
  obtain ⟨b, off, e, hb, hr⟩ := ra_at h h0
  refine ⟨b, off, e, hb, fun k hk => ?_⟩
  have hk2 := hr k hk
  exact ⟨run_qoLoad hk2, (ra_ok h).at_ hk⟩
theorem qo_boxed (w : World) (c : Qx) (h1 : c.v.oneCell' = true) : ∃ W, w.alloc (.cells (qc c) 35) = W ∧ (qoStore (.pointer (some ⟨w.heap.size, 0, none⟩)) (.agg (qc c))).run Try.prog (w.alloc (.cells #[.int .i64 0, .int .i64 0, .int .i64 0, .slice none 0 0] 35)) = .ok () W ∧ Hid (Qv W w.heap.size c ∧ Below w.heap.size w W) :=
  ⟨_, rfl, run_qoStore w rfl c h1, Lib.hid ⟨Qv.new w c, bal (Below.refl _ _)⟩⟩
end Go.Proofs.Ytlhpcimbigfmkaa
