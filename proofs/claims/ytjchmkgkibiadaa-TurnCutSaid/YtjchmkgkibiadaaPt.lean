/-
  A Put of a slot (of layer 7's statements), by value, in a variable and in a slice: how it came in, how it reads.
-/
import Derived.Test.YtjchmkgkibiadaaCal
import Derived.Deep.Slices
namespace Go.Proofs.Ytjchmkgkibiadaa
open Go.ChangeShapes Go.WideShapes Go.ChangeAt Go.RowKit

structure Pt where
  i : Int
  l : List Int
def Pt.cells (c : Pt) : List Value := .int .i64 c.i :: c.l.map uv
def pc (c : Pt) : Array Value := c.cells.toArray
structure Pt.Wf (c : Pt) : Prop where
  len : c.l.length = 8
  wi : (Lit.int .i64 c.i).wf = true
  wl : wfu c.l
instance : Inhabited Pt := ⟨⟨0, zeros⟩⟩

theorem cells_put_ : Try.prog.cellsOf 35 = 9 := by kernel_rfl
theorem info_put : (Try.prog.info? 35).map (·.size) = some 9 := by kernel_rfl

theorem trod_struct2 {H : Type} {enc : TypeId × Value → H} {P : Program} {w : World} {base : Nat} {spare : Nat → Bool} {held : Bool} {t : TypeId} {f0 f1 : Field} {fuel : Nat} {cs : List Value} {x : DataW H × List MemPlace}
    (ht : P.underlying t = some (.struct #[f0, f1])) (h : DataW.trod enc P w base spare held fuel t cs = some x) :
    ∃ y0 y1 n, cs.length = P.cellsOf t ∧ DataW.trod enc P w base spare held n f0.type ((cs.drop f0.offset).take (P.cellsOf f0.type)) = some y0 ∧
      DataW.trod enc P w base spare held n f1.type ((cs.drop f1.offset).take (P.cellsOf f1.type)) = some y1 := by
  obtain ⟨xs, n, _, rfl, hl, hlen, hf⟩ := DataW.trod_struct ht h
  match xs, hlen with
  | [y0, y1], _ => exact ⟨y0, y1, n, hl, by simpa using hf 0 f0 rfl, by simpa using hf 1 f1 rfl⟩

/-- its cells that read -/
theorem put_cells {H : Type} {enc : TypeId × Value → H} {W : World} {base n : Nat} {sp : Nat → Bool} {held : Bool} {cs : List Value} {y : DataW H × List MemPlace}
    (h : DataW.trod enc Try.prog W base sp held n 35 cs = some y) : ∃ c : Pt, cs = c.cells ∧ c.Wf := by
  obtain ⟨y0, y1, k, hl, g0, g1⟩ := trod_struct2 Try.underlying35 h
  rw [cells_put_] at hl
  dsimp only at g0 g1
  rw [cells_i64] at g0
  rw [cells_line] at g1
  obtain ⟨i, e0, _, w0⟩ := DataW.trod_int Try.underlying3 g0
  obtain ⟨l, e1, l1, w1⟩ := line_cells g1 (by rw [List.length_take, List.length_drop]; omega)
  refine ⟨⟨i, l⟩, ?_, ⟨l1, w0, w1⟩⟩
  match cs, hl with
  | [c0, c1, c2, c3, c4, c5, c6, c7, c8], _ =>
    simp at e0 e1
    simp [Pt.cells, e0, ← e1]

/-- one that came in -/
theorem put_in {H : Type} {enc : TypeId × Value → H} {W : World} {base : Nat} {v : Value} {d : DataW H} {p : List MemPlace}
    (hval : Value.okWide Try.prog W .any base 35 v) (h : DataW.Trod enc Try.prog W 0 (fun _ => true) true 35 v d p) : ∃ c : Pt, v = .agg (pc c) ∧ c.Wf := by
  obtain ⟨cs, rfl, hsz, _⟩ : ∃ cs, v = .agg cs ∧ cs.size = Try.prog.cellsOf 35 ∧ Row.okWide Try.prog W .any base 35 cs := by
    simpa [Value.okWide, Try.underlying35] using hval
  obtain ⟨fuel, hf⟩ := h
  obtain ⟨c, hc, hw⟩ := put_cells hf
  refine ⟨c, ?_, hw⟩
  have : cs.toList = c.cells := by simpa [Value.cells] using hc
  rw [pc, ← this]

/-- a slice of them that can be read -/
def RP (w : World) (v : Value) (l : List Pt) : Prop :=
  ∃ p cap, v = .slice p l.length cap ∧ l.length ≤ cap ∧ cap ≤ maxLen ∧ (∀ k, k < l.length → (l.getD k default).Wf) ∧
    (l = [] ∨ ∃ b off, p = some ⟨b, off, none⟩ ∧ b < w.heap.size ∧ ∀ k, k < l.length → w.rangeAt b (off + k * 9) (l.getD k default).cells)
theorem rp_below {w w' : World} {v : Value} {l : List Pt} (h : RP w v l) (hb : Below w.heap.size w w') : RP w' v l := by
  obtain ⟨p, cap, rfl, h1, h2, h3, h | ⟨b, off, rfl, hlt, hc⟩⟩ := h
  · exact ⟨p, cap, rfl, h1, h2, h3, .inl h⟩
  · refine ⟨_, cap, rfl, h1, h2, h3, .inr ⟨b, off, rfl, Nat.lt_of_lt_of_le hlt hb.size, fun k hk j u hj => ?_⟩⟩
    rw [hb.cell (p := ⟨b, off + k * 9 + j, none⟩) hlt]
    exact hc k hk j u hj

theorem puts_in {H : Type} {enc : TypeId × Value → H} {W : World} {base : Nat} {v : Value} {d : DataW H} {p : List MemPlace}
    (hval : Value.okWide Try.prog W .any base 23 v) (h : DataW.Trod enc Try.prog W 0 (fun _ => true) true 23 v d p) : ∃ l : List Pt, RP W v l := by
  obtain ⟨va, vl, vc, rfl⟩ := okWide_slice Try.underlying23 hval
  obtain ⟨fuel, hf⟩ := h
  rcases Go.Deep.open_slice Try.underlying23 hf with ⟨hcs, _⟩ | ⟨a, len, cap, m, n, D, Pl, hcs, _, hl, hm, hmm, hdx, hx⟩
  · simp [Value.cells] at hcs
    obtain ⟨rfl, rfl, rfl⟩ := hcs
    exact ⟨[], none, 0, rfl, Nat.le_refl _, Nat.zero_le _, fun k hk => absurd hk (by simp), .inl rfl⟩
  · simp [Value.cells] at hcs
    obtain ⟨rfl, rfl, rfl⟩ := hcs
    have hle : vl ≤ m := by rw [hmm]; split <;> omega
    rw [cells_put_] at hx
    have pick : ∀ i, ∃ c : Pt, i < vl → W.cells? 0 (a.add (i * 9)) 9 = some c.cells ∧ c.Wf := by
      intro i
      by_cases hi : i < vl
      · obtain ⟨cs', h1, h2⟩ := hx i (by omega)
        obtain ⟨c, rfl, hw⟩ := put_cells h2
        exact ⟨c, fun _ => ⟨h1, hw⟩⟩
      · exact ⟨default, fun h => absurd h hi⟩
    obtain ⟨f, hfp⟩ := Classical.axiomOfChoice pick
    have hgd : ∀ k, k < vl → ((List.range vl).map f).getD k default = f k := fun k hk => by simp [hk]
    by_cases h0 : vl = 0
    · subst h0
      exact ⟨[], some a, vc, rfl, Nat.zero_le _, hm, fun k hk => absurd hk (by simp), .inl rfl⟩
    · obtain ⟨b, off, spot⟩ := a
      have e0 := (World.cells?_some (hfp 0 (by omega)).1).2.2 0 (by omega)
      have hspot : spot = none := by
        have := World.cell?_spot e0
        simpa [Addr.add] using this
      subst hspot
      refine ⟨(List.range vl).map f, _, vc, by simp, by simpa using hl, hm, fun k hk => ?_, .inr ⟨b, off, rfl, ?_, fun k hk => ?_⟩⟩
      · have hk' : k < vl := by simpa using hk
        rw [hgd k hk']; exact (hfp k hk').2
      · simpa [Addr.add] using World.block_lt_of_cell? W _ e0
      · have hk' : k < vl := by simpa using hk
        rw [hgd k hk']
        intro j u hj
        obtain ⟨_, hlen, hcell⟩ := World.cells?_some (hfp k hk').1
        have hj9 : j < 9 := by rw [← hlen]; exact (List.getElem?_eq_some_iff.1 hj).1
        have := hcell j hj9
        rw [hj] at this
        rw [← this, add_plain, add_plain]

theorem Pt.cells_length {c : Pt} (h : c.l.length = 8) : c.cells.length = 9 := by simp [Pt.cells, h]
theorem Pt.cells_l {c : Pt} (h : c.l.length = 8) {j : Nat} (hj : j < 8) : c.cells[1 + j]? = some (.int .u64 (c.l.getD j 0)) := by
  rw [Nat.add_comm]
  simp [Pt.cells, uv, h, hj]
@[go_sem] theorem pc_ne (c : Pt) : (pc c = #[]) = False := by simp [pc, Pt.cells]
theorem pc_size {c : Pt} (h : c.l.length = 8) : (pc c).size = 9 := by simp [pc, Pt.cells_length h]
theorem pc_one (c : Pt) : (pc c).all (·.oneCell') = true := by
  simp [pc, Pt.cells, uv, Value.oneCell']

/-- block g holds it -/
def Pv (w : World) (g : Nat) (c : Pt) : Prop := Whole w g 35 (pc c) ∧ c.l.length = 8
theorem Pv.lt {w : World} {g : Nat} {c : Pt} (h : Pv w g c) : g < w.heap.size := h.1.lt
theorem Pv.below {w w' : World} {g : Nat} {c : Pt} (h : Pv w g c) (hb : Below w.heap.size w w') : Pv w' g c := ⟨(hb.block g h.1.lt).trans h.1, h.2⟩
theorem Pv.chg {D : List Nat} {w w' : World} {g : Nat} {c : Pt} (h : Pv w g c) (hb : Chg D w w') (hg : g ∉ D) : Pv w' g c := ⟨hb.whole h.1 hg, h.2⟩
theorem Pv.new (w : World) {c : Pt} (h : c.l.length = 8) : Pv (w.alloc (.cells (pc c) 35)) w.heap.size c := ⟨heap_alloc_last w _, h⟩
theorem Pv.alloc {w : World} {g : Nat} {c : Pt} (h : Pv w g c) (o : Obj) : Pv (w.alloc o) g c := ⟨h.1.alloc o, h.2⟩
theorem Pv.at_ {w : World} {g : Nat} {c : Pt} (h : Pv w g c) (k : Nat) : w.cell? ⟨g, k, none⟩ = c.cells[k]? := by
  rw [h.1.at_]; simp [pc]
/-- its slot -/
theorem Pv.slot {w : World} {g : Nat} {c : Pt} (h : Pv w g c) : w.cell? ⟨g, 0, none⟩ = some (.int .i64 c.i) := by rw [h.at_]; rfl
theorem Pv.free {w : World} {g : Nat} {c : Pt} (h : Pv w g c) (k : Nat) : w.frozen? ⟨g, k, none⟩ = false := h.1.free k
/-- another slot -/
theorem Pv.set_ {w : World} {g : Nat} {c : Pt} (h : Pv w g c) (x : Int) : Pv (w.setCell ⟨g, 0, none⟩ (.int .i64 x)) g ⟨x, c.l⟩ := by
  refine ⟨?_, h.2⟩
  have := h.1.set_ 0 (.int .i64 x)
  simpa [pc, Pt.cells] using this
/-- its line -/
theorem Pv.line {w : World} {g : Nat} {c : Pt} (h : Pv w g c) : (lineLoad (.pointer (some ⟨g, 1, none⟩))).run Try.prog w = .ok (.agg (lc c.l)) w := by
  unfold lineLoad
  exact run_loadAt_mid (P := Try.prog) w g 1 33 (c.l.map uv) _ (fun j v hv => by
    have hj : j < 8 := by
      have := (List.getElem?_eq_some_iff.1 hv).1
      simpa [h.2] using this
    rw [h.at_, Pt.cells_l h.2 hj, ← hv]
    simp [uv, h.2, hj]) Try.underlying33 rfl (by rw [info_line]; simp [h.2])

/-- a whole one loaded, stored -/
def putLoad (p : Value) : Sem Value := Instr.loadAt 35 p
def putStore (p v : Value) : Sem Unit := Instr.storeAt 35 p v
@[go_sem ↓] theorem loadAt_put (p : Value) : Instr.loadAt 35 p = putLoad p := rfl
@[go_sem ↓] theorem storeAt_put (p v : Value) : Instr.storeAt 35 p v = putStore p v := rfl
theorem run_putLoad {w : World} {b o : Nat} {c : Pt} (h : w.rangeAt b o c.cells) (hl : c.l.length = 8) : (putLoad (.pointer (some ⟨b, o, none⟩))).run Try.prog w = .ok (.agg (pc c)) w :=
  run_loadAt_mid (P := Try.prog) w b o 35 c.cells _ h Try.underlying35 rfl (by rw [info_put, Pt.cells_length hl])
theorem run_putStore (w : World) {z : Array Value} (hz : z.size = 9) {c : Pt} (hl : c.l.length = 8) :
    (putStore (.pointer (some ⟨w.heap.size, 0, none⟩)) (.agg (pc c))).run Try.prog (w.alloc (.cells z 35)) = .ok () (w.alloc (.cells (pc c) 35)) := by
  unfold putStore
  simp only [Instr.storeAt, Instr.sureAddr, Sem.run_bind, Sem.run_pure, Result.andThen]
  rw [run_storeVar_row _ _ 35 35 z (pc c) (heap_alloc_last w _) (by rw [info_put, pc_size hl]) (by rw [hz, pc_size hl]) (pc_one c), World.setRow_alloc_new]
@[go_sem] theorem put_store_new (w : World) (c : Pt) (hl : c.l.length = 8) :
    (putStore (.pointer (some ⟨w.heap.size, 0, none⟩)) (.agg (pc c))).run Try.prog (w.alloc (.cells #[.int .i64 0, .int .u64 0, .int .u64 0, .int .u64 0, .int .u64 0, .int .u64 0, .int .u64 0, .int .u64 0, .int .u64 0] 35)) = .ok () (w.alloc (.cells (pc c) 35)) :=
  run_putStore w rfl hl
/-- the k-th of a slice -/
theorem rp_at {w : World} {p : Option Addr} {n cap : Nat} {l : List Pt} (h : RP w (.slice p n cap) l) {k : Nat} (hk : k < l.length) :
    ∃ b off, p = some ⟨b, off, none⟩ ∧ b < w.heap.size ∧ (putLoad (.pointer (some ⟨b, off + k * 9, none⟩))).run Try.prog w = .ok (.agg (pc (l.getD k default))) w ∧ (l.getD k default).Wf := by
  obtain ⟨q, c, e, _, _, hw, rfl | ⟨b, off, rfl, hb, hr⟩⟩ := h
  · simp at hk
  · cases e
    exact ⟨b, off, rfl, hb, run_putLoad (hr k hk) (hw k hk).len, hw k hk⟩
theorem rp_shape {w : World} {v : Value} {l : List Pt} (h : RP w v l) : ∃ p cap, v = .slice p l.length cap ∧ l.length ≤ cap ∧ cap ≤ maxLen := by
  obtain ⟨p, cap, e, h1, h2, _⟩ := h
  exact ⟨p, cap, e, h1, h2⟩
end Go.Proofs.Ytjchmkgkibiadaa
