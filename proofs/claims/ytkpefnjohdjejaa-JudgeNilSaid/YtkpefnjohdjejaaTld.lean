/-
  An operation and what was told of it (the statement's Told), by value, in a variable, in a slice: how it came in, how it reads.
-/
import Derived.Test.YtkpefnjohdjejaaAns
import Derived.SizedLaws
namespace Go.Proofs.Ytkpefnjohdjejaa
set_option maxRecDepth 100000
open Go.ChangeShapes Go.WideShapes Go.ChangeAt Go.RowKit

structure Tx where
  x : Px
  e : Int
  o : Int
  v : Value
  l : List Int
instance : Inhabited Tx := ⟨⟨default, 0, 0, .slice none 0 0, []⟩⟩
def Tx.cells (t : Tx) : List Value := [.int .i64 t.x.d, .int .i64 t.x.o, .int .i64 t.x.nn, .int .i64 t.x.msk, t.x.v, .int .i64 t.e, .int .i64 t.o, t.v]
def txc (t : Tx) : Array Value := t.cells.toArray
structure Tx.Wf (W : World) (t : Tx) : Prop where
  x : t.x.Wf W
  we : (Lit.int .i64 t.e).wf = true
  wo : (Lit.int .i64 t.o).wf = true
  one : t.v.oneCell' = true
  rv : RA byE W t.v t.l
theorem cells_told : Try.prog.cellsOf 38 = 8 := by kernel_rfl
theorem cells_ans_t : Try.prog.cellsOf 36 = 3 := by kernel_rfl
theorem cells_errno_t : Try.prog.cellsOf 34 = 1 := by kernel_rfl
theorem info_told : (Try.prog.info? 38).map (·.size) = some 8 := by kernel_rfl
theorem trod_two_t {H : Type} {enc : TypeId × Value → H} {P : Program} {w : World} {base : Nat} {spare : Nat → Bool} {held : Bool} {t : TypeId} {f0 f1 : Field} {fuel : Nat} {cs : List Value} {x : DataW H × List MemPlace}
    (ht : P.underlying t = some (.struct #[f0, f1])) (h : DataW.trod enc P w base spare held fuel t cs = some x) :
    ∃ y0 y1 n, cs.length = P.cellsOf t ∧ DataW.trod enc P w base spare held n f0.type ((cs.drop f0.offset).take (P.cellsOf f0.type)) = some y0 ∧
      DataW.trod enc P w base spare held n f1.type ((cs.drop f1.offset).take (P.cellsOf f1.type)) = some y1 := by
  obtain ⟨xs, n, _, rfl, hl, hlen, hf⟩ := DataW.trod_struct ht h
  match xs, hlen with
  | [y0, y1], _ => exact ⟨y0, y1, n, hl, by simpa using hf 0 f0 rfl, by simpa using hf 1 f1 rfl⟩
theorem trod_three_t {H : Type} {enc : TypeId × Value → H} {P : Program} {w : World} {base : Nat} {spare : Nat → Bool} {held : Bool} {t : TypeId} {f0 f1 f2 : Field} {fuel : Nat} {cs : List Value} {x : DataW H × List MemPlace}
    (ht : P.underlying t = some (.struct #[f0, f1, f2])) (h : DataW.trod enc P w base spare held fuel t cs = some x) :
    ∃ y0 y1 y2 n, cs.length = P.cellsOf t ∧ DataW.trod enc P w base spare held n f0.type ((cs.drop f0.offset).take (P.cellsOf f0.type)) = some y0 ∧
      DataW.trod enc P w base spare held n f1.type ((cs.drop f1.offset).take (P.cellsOf f1.type)) = some y1 ∧ DataW.trod enc P w base spare held n f2.type ((cs.drop f2.offset).take (P.cellsOf f2.type)) = some y2 := by
  obtain ⟨xs, n, _, rfl, hl, hlen, hf⟩ := DataW.trod_struct ht h
  match xs, hlen with
  | [y0, y1, y2], _ => exact ⟨y0, y1, y2, n, hl, by simpa using hf 0 f0 rfl, by simpa using hf 1 f1 rfl, by simpa using hf 2 f2 rfl⟩
theorem ans_cells_t {H : Type} {enc : TypeId × Value → H} {W : World} {n : Nat} {sp : Nat → Bool} {held : Bool} {cs : List Value} {y : DataW H × List MemPlace}
    (h : DataW.trod enc Try.prog W 0 sp held n 36 cs = some y) : ∃ (e o : Int) (v : Value) (l : List Int), cs = [.int .i64 e, .int .i64 o, v] ∧ (Lit.int .i64 e).wf = true ∧ (Lit.int .i64 o).wf = true ∧ v.oneCell' = true ∧ RA byE W v l := by
  obtain ⟨y0, y1, y2, k, hl, g0, g1, g2⟩ := trod_three_t Try.underlying36 h
  rw [cells_ans_t] at hl
  dsimp only at g0 g1 g2
  rw [cells_errno_t] at g0
  rw [cells_int_h] at g1
  rw [cells_bs_h] at g2
  obtain ⟨d, e0, _, w0⟩ := DataW.trod_int Try.underlying34 g0
  obtain ⟨o, e1, _, w1⟩ := DataW.trod_int Try.underlying3 g1
  obtain ⟨u, l, e4, hr⟩ := elems_in byE g2 (fun _ _ _ hy _ => byte_elh hy)
  obtain ⟨q, c, eu, _⟩ := ra_shape hr
  refine ⟨d, o, u, l, ?_, w0, w1, by rw [eu]; rfl, hr⟩
  match cs, hl with
  | [c0, c1, c2], _ =>
    simp at e0 e1 e4
    simp [e0, e1, e4]
theorem told_cells {H : Type} {enc : TypeId × Value → H} {W : World} {n : Nat} {sp : Nat → Bool} {held : Bool} {cs : List Value} {y : DataW H × List MemPlace}
    (h : DataW.trod enc Try.prog W 0 sp held n 38 cs = some y) : ∃ t : Tx, cs = t.cells ∧ t.Wf W := by
  obtain ⟨y0, y1, k, hl, g0, g1⟩ := trod_two_t Try.underlying38 h
  rw [cells_told] at hl
  dsimp only at g0 g1
  rw [cells_hop] at g0
  rw [cells_ans_t] at g1
  obtain ⟨c, hc, hw⟩ := hop_cells g0
  obtain ⟨e, o, v, l, ha, we, wo, one, rv⟩ := ans_cells_t g1
  refine ⟨⟨c, e, o, v, l⟩, ?_, ⟨hw, we, wo, one, rv⟩⟩
  match cs, hl with
  | [c0, c1, c2, c3, c4, c5, c6, c7], _ =>
    simp [Px.cells] at hc ha
    simp [Tx.cells, hc, ha]
theorem told_in {H : Type} {enc : TypeId × Value → H} {W : World} {base : Nat} {v : Value} {d : DataW H} {p : List MemPlace}
    (hval : Value.okWide Try.prog W .any base 38 v) (h : DataW.Trod enc Try.prog W 0 (fun _ => true) true 38 v d p) : ∃ t : Tx, v = .agg (txc t) ∧ t.Wf W := by
  obtain ⟨cs, rfl, hsz, _⟩ : ∃ cs, v = .agg cs ∧ cs.size = Try.prog.cellsOf 38 ∧ Row.okWide Try.prog W .any base 38 cs := by
    simpa [Value.okWide, Try.underlying38] using hval
  obtain ⟨fuel, hf⟩ := h
  obtain ⟨c, hc, hw⟩ := told_cells hf
  refine ⟨c, ?_, hw⟩
  have : cs.toList = c.cells := by simpa [Value.cells] using hc
  rw [txc, ← this]
/-- slices of them -/
def tlE (W : World) : Elm Try.prog Tx where
  t := 22
  e := 38
  size := 8
  bytes := 96
  z := .agg #[.int .i64 0, .int .i64 0, .int .i64 0, .int .i64 0, .slice none 0 0, .int .i64 0, .int .i64 0, .slice none 0 0]
  enc := Tx.cells
  ok := Tx.Wf W
  ht := Try.underlying22
  hi := by kernel_rfl
  hzs := rfl
  pos := by decide
  bpos := by decide
  len := fun _ _ => rfl
  one := fun a ha u hu => by
    simp only [Tx.cells, List.mem_cons, List.not_mem_nil, or_false] at hu
    rcases hu with rfl | rfl | rfl | rfl | rfl | rfl | rfl | rfl
    · rfl
    · rfl
    · rfl
    · rfl
    · exact ha.x.one
    · rfl
    · rfl
    · exact ha.one
theorem tolds_in {H : Type} {enc : TypeId × Value → H} {W : World} {base : Nat} {v : Value} {d : DataW H} {p : List MemPlace}
    (hval : Value.okWide Try.prog W .any base 22 v) (h : DataW.Trod enc Try.prog W 0 (fun _ => true) true 22 v d p) : ∃ l : List Tx, RA (tlE W) W v l := by
  obtain ⟨va, vl, vc, rfl⟩ := okWide_slice Try.underlying22 hval
  obtain ⟨fuel, hf⟩ := h
  obtain ⟨u, l, e, hr⟩ := elems_in (tlE W) hf (fun _ _ _ hy _ => told_cells hy)
  have e' : Value.slice va vl vc = u := by simpa [Value.cells] using e
  exact ⟨l, by rw [e']; exact hr⟩
@[go_sem] theorem txc_ne (x : Tx) : (txc x = #[]) = False := by simp [txc, Tx.cells]
theorem txc_size (x : Tx) : (txc x).size = 8 := rfl
theorem txc_one {t : Tx} (h1 : t.x.v.oneCell' = true) (h2 : t.v.oneCell' = true) : (txc t).all (·.oneCell') = true := by
  have a : ∀ k i, (Value.int k i).oneCell' = true := fun _ _ => rfl
  simp [txc, Tx.cells, h1, h2, a]
/-- block g holds it -/
def Txv (w : World) (g : Nat) (t : Tx) : Prop := Whole w g 38 (txc t)
section
variable {w w' : World} {g : Nat} {t : Tx}
theorem Txv.lt (h : Txv w g t) : g < w.heap.size := Whole.lt h
theorem Txv.below (h : Txv w g t) (hb : Below w.heap.size w w') : Txv w' g t := (hb.block g (Whole.lt h)).trans h
theorem Txv.chg {D : List Nat} (h : Txv w g t) (hb : Chg D w w') (hg : g ∉ D) : Txv w' g t := hb.whole h hg
theorem Txv.new (w : World) (t : Tx) : Txv (w.alloc (.cells (txc t) 38)) w.heap.size t := heap_alloc_new w _
theorem Txv.c4 (h : Txv w g t) : w.cell? ⟨g, 4, none⟩ = some t.x.v := Whole.at_ h 4
theorem Txv.c7 (h : Txv w g t) : w.cell? ⟨g, 7, none⟩ = some t.v := Whole.at_ h 7
theorem Txv.op (h : Txv w g t) : (pxLoad (.pointer (some ⟨g, 0, none⟩))).run Try.prog w = .ok (.agg (pxc t.x)) w := run_pxLoad fun j u hj => by
  rw [Whole.at_ h]
  have : j < 5 := (List.getElem?_eq_some_iff.1 hj).1
  rcases j with _ | _ | _ | _ | _ | j
  · exact hj
  · exact hj
  · exact hj
  · exact hj
  · exact hj
  · omega
theorem Txv.ans (h : Txv w g t) : (anLoad (.pointer (some ⟨g, 5, none⟩))).run Try.prog w = .ok (.agg (anc t.e t.o t.v)) w :=
  run_loadAt_mid (P := Try.prog) w g 5 36 [.int .i64 t.e, .int .i64 t.o, t.v] _ (fun j u hj => by
    rw [Whole.at_ h]
    have : j < 3 := (List.getElem?_eq_some_iff.1 hj).1
    rcases j with _ | _ | _ | j
    · exact hj
    · exact hj
    · exact hj
    · omega) Try.underlying36 rfl info_ans
end
def txLoad (p : Value) : Sem Value := Instr.loadAt 38 p
def txStore (p v : Value) : Sem Unit := Instr.storeAt 38 p v
@[go_sem ↓] theorem loadAt_tx (p : Value) : Instr.loadAt 38 p = txLoad p := rfl
@[go_sem ↓] theorem storeAt_tx (p v : Value) : Instr.storeAt 38 p v = txStore p v := rfl
theorem run_txLoad {w : World} {b o : Nat} {c : Tx} (h : w.rangeAt b o c.cells) : (txLoad (.pointer (some ⟨b, o, none⟩))).run Try.prog w = .ok (.agg (txc c)) w :=
  run_loadAt_mid (P := Try.prog) w b o 38 c.cells _ h Try.underlying38 rfl info_told
theorem run_txStore (w : World) {z : Array Value} (hz : z.size = 8) (c : Tx) (h1 : c.x.v.oneCell' = true) (h2 : c.v.oneCell' = true) :
    (txStore (.pointer (some ⟨w.heap.size, 0, none⟩)) (.agg (txc c))).run Try.prog (w.alloc (.cells z 38)) = .ok () (w.alloc (.cells (txc c) 38)) := by
  unfold txStore
  simp only [Instr.storeAt, Instr.sureAddr, Sem.run_bind, Sem.run_pure, Result.andThen]
  rw [run_storeVar_row _ _ 38 38 z (txc c) (heap_alloc_new w _) (by rw [info_told, txc_size]) (by rw [hz, txc_size]) (txc_one h1 h2), World.setRow_alloc_new]
/-- the k-th of a slice: loaded whole -/
theorem tx_at {W w : World} {p : Option Addr} {n cap : Nat} {l : List Tx} (h : RA (tlE W) w (.slice p n cap) l) (h0 : 0 < l.length) :
    ∃ b off, p = some ⟨b, off, none⟩ ∧ b < w.heap.size ∧ ∀ k, k < l.length → (txLoad (.pointer (some ⟨b, off + k * 8, none⟩))).run Try.prog w = .ok (.agg (txc (l.getD k default))) w ∧ (l.getD k default).Wf W := by
  obtain ⟨b, off, e, hb, hr⟩ := ra_at h h0
  refine ⟨b, off, e, hb, fun k hk => ?_⟩
  have hk2 := hr k hk
  exact ⟨run_txLoad hk2, (ra_ok h).at_ hk⟩
theorem tx_boxed (w : World) (c : Tx) (h1 : c.x.v.oneCell' = true) (h2 : c.v.oneCell' = true) : ∃ W, w.alloc (.cells (txc c) 38) = W ∧ (txStore (.pointer (some ⟨w.heap.size, 0, none⟩)) (.agg (txc c))).run Try.prog (w.alloc (.cells #[.int .i64 0, .int .i64 0, .int .i64 0, .int .i64 0, .slice none 0 0, .int .i64 0, .int .i64 0, .slice none 0 0] 38)) = .ok () W ∧ Hid (Txv W w.heap.size c ∧ Below w.heap.size w W) :=
  ⟨_, rfl, run_txStore w rfl c h1 h2, Lib.hid ⟨Txv.new w c, bal (Below.refl _ _)⟩⟩
end Go.Proofs.Ytkpefnjohdjejaa
