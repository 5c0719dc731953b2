/-
  Lines, by value and in variables: what came in, whole loads and stores, words at a place, whether two are the same.
-/
import Derived.Test.YthcecfenjbdgmaaBlk
import Derived.Deep.WholeRow
import Derived.Laws.StructEq
namespace Go.Proofs.Ythcecfenjbdgmaa
set_option maxRecDepth 100000
open Go.ChangeShapes Go.WideShapes Go.ChangeAt Go.RowKit

/-- a word's cell; a line's cells -/
def lc (l : List Int) : Array Value := (l.map uv).toArray
def wfu (l : List Int) : Prop := ∀ n ∈ l, (Lit.int .u64 n).wf = true

@[go_sem] theorem lc_size (l : List Int) : (lc l).size = l.length := by simp [lc]
theorem lc_at (l : List Int) (i : Nat) (h : i < l.length) : (lc l)[i]? = some (.int .u64 (l.getD i 0)) := by simp [lc, uv, h]
@[go_sem] theorem lc_set (l : List Int) (i : Nat) (x : Int) : (lc l).setIfInBounds i (.int .u64 x) = lc (l.set i x) := by
  simp [lc, List.map_set, uv]
@[go_sem] theorem lc_nil (l : List Int) : (lc l = #[]) = (l = []) := by simp [lc]
theorem lc_one (l : List Int) : (lc l).all (·.oneCell') = true := by
  simp [lc, uv, Value.oneCell']
theorem lc_inj {a b : List Int} (h : lc a = lc b) : a = b := by
  have h1 : a.map uv = b.map uv := by simpa [lc] using h
  exact List.map_inj_right (fun x y e => by cases e; rfl) |>.1 h1
theorem cells_line : Try.prog.cellsOf 36 = 8 := by kernel_rfl

/-- a line that came in -/
theorem line_in {H : Type} {enc : TypeId × Value → H} {W : World} {base : Nat} {v : Value} {d : DataW H} {p : List MemPlace}
    (hval : Value.okWide Try.prog W .any base 36 v) (h : DataW.Trod enc Try.prog W 0 (fun _ => true) true 36 v d p) : ∃ l : List Int, v = .agg (lc l) ∧ l.length = 8 ∧ wfu l := by
  obtain ⟨cs, rfl, hsz, _⟩ : ∃ cs, v = .agg cs ∧ cs.size = Try.prog.cellsOf 36 ∧ Row.okWide Try.prog W .any base 36 cs := by
    simpa [Value.okWide, Try.underlying36] using hval
  rw [cells_line] at hsz
  obtain ⟨fuel, hf⟩ := h
  obtain ⟨xs, m, _, _, _, hl, hi⟩ := Go.DataW.trod_array Try.underlying36 hf
  rw [cells_u64] at hi
  have pick : ∀ i, ∃ x : Int, i < 8 → cs[i]? = some (.int .u64 x) ∧ (Lit.int .u64 x).wf = true := by
    intro i
    by_cases h8 : i < 8
    · have hx := hi i h8
      rw [List.getElem?_eq_getElem (by omega : i < xs.length)] at hx
      obtain ⟨x, hc, _, hw⟩ := DataW.trod_int Try.underlying34 hx
      refine ⟨x, fun _ => ⟨?_, hw⟩⟩
      have := congrArg (·[0]?) hc
      simpa [Value.cells, List.getElem?_take, List.getElem?_drop] using this
    · exact ⟨0, fun h => absurd h h8⟩
  obtain ⟨f, hfp⟩ := Classical.axiomOfChoice pick
  refine ⟨(List.range 8).map f, ?_, by simp, ?_⟩
  · congr 1
    apply Array.ext_getElem?
    intro i
    by_cases h8 : i < 8
    · rw [(hfp i h8).1]; simp [lc, uv, h8]
    · rw [Array.getElem?_eq_none (by omega), Array.getElem?_eq_none (by simp [lc]; omega)]
  · intro n hn
    obtain ⟨i, hi', rfl⟩ := List.mem_map.1 hn
    exact (hfp i (by simpa using hi')).2

/-- a variable that holds a line -/
def Ln (w : World) (g : Nat) (l : List Int) : Prop := Whole w g 36 (lc l) ∧ l.length = 8

theorem Ln.lt {w : World} {g : Nat} {l : List Int} (h : Ln w g l) : g < w.heap.size := h.1.lt
theorem Ln.alloc {w : World} {g : Nat} {l : List Int} (h : Ln w g l) (o : Obj) : Ln (w.alloc o) g l := ⟨h.1.alloc o, h.2⟩
theorem Ln.below {w w' : World} {g : Nat} {l : List Int} (h : Ln w g l) (hb : Below w.heap.size w w') : Ln w' g l := ⟨(hb.block g h.lt).trans h.1, h.2⟩
theorem Ln.drewN {w : World} {g : Nat} {l : List Int} (h : Ln w g l) (n : Nat) : Ln (w.drewN n) g l := h
theorem Ln.other {w : World} {g g' i : Nat} {l : List Int} (h : Ln w g l) (hne : g ≠ g') (u : Value) : Ln (w.setCell ⟨g', i, none⟩ u) g l := ⟨h.1.other hne u, h.2⟩
theorem Ln.set_ {w : World} {g : Nat} {l : List Int} (h : Ln w g l) (i : Nat) (x : Int) : Ln (w.setCell ⟨g, i, none⟩ (.int .u64 x)) g (l.set i x) := by
  refine ⟨?_, by simpa using h.2⟩
  have := h.1.set_ i (.int .u64 x)
  rw [lc_set] at this; exact this
theorem Ln.new (w : World) {l : List Int} (h : l.length = 8) : Ln (w.alloc (.cells (lc l) 36)) w.heap.size l := ⟨heap_alloc_last w _, h⟩
theorem Ln.cell {w : World} {g : Nat} {l : List Int} (h : Ln w g l) {i : Nat} (hi : i < 8) : w.cell? ⟨g, i, none⟩ = some (.int .u64 (l.getD i 0)) ∧ w.frozen? ⟨g, i, none⟩ = false := by
  refine ⟨?_, h.1.free i⟩
  rw [h.1.at_, lc_at _ _ (by rw [h.2]; exact hi)]
theorem Ln.wide {w : World} {g : Nat} {l : List Int} (h : Ln w g l) : (lc l).size = 8 := (lc_size l).trans h.2
theorem info_line : (Try.prog.info? 36).map (·.size) = some 8 := by kernel_rfl

/-- a line loaded whole, stored whole: taken ahead of the walk's own unfolding -/
def lineLoad (p : Value) : Sem Value := Instr.loadAt 36 p
def lineStore (p v : Value) : Sem Unit := Instr.storeAt 36 p v
@[go_sem ↓] theorem loadAt_line (p : Value) : Instr.loadAt 36 p = lineLoad p := rfl
@[go_sem ↓] theorem storeAt_line (p v : Value) : Instr.storeAt 36 p v = lineStore p v := rfl
@[go_sem] theorem fold8 (a b c d e f g h : Int) : #[Value.int .u64 a, .int .u64 b, .int .u64 c, .int .u64 d, .int .u64 e, .int .u64 f, .int .u64 g, .int .u64 h] = lc [a, b, c, d, e, f, g, h] := rfl

theorem Ln.loadVar {w : World} {g : Nat} {l : List Int} (h : Ln w g l) : (loadVar 36 ⟨g, 0, none⟩).run Try.prog w = .ok (.agg (lc l)) w :=
  run_loadVar_row w g 36 36 (lc l) (0, 0) _ h.1 Try.underlying36 rfl (by rw [info_line, h.wide])
theorem Ln.load {w : World} {g : Nat} {l : List Int} (h : Ln w g l) : (lineLoad (.pointer (some ⟨g, 0, none⟩))).run Try.prog w = .ok (.agg (lc l)) w := by
  simp only [lineLoad, Instr.loadAt, Instr.sureAddr, Sem.run_bind, Sem.run_pure, Result.andThen]
  exact h.loadVar
theorem Ln.store {w : World} {g : Nat} {l x : List Int} (h : Ln w g l) (hx : x.length = 8) : (lineStore (.pointer (some ⟨g, 0, none⟩)) (.agg (lc x))).run Try.prog w = .ok () (w.setRow g (lc x)) := by
  simp only [lineStore, Instr.storeAt, Instr.sureAddr, Sem.run_bind, Sem.run_pure, Result.andThen]
  exact run_storeVar_row w g 36 36 (lc l) (lc x) h.1 (by rw [info_line, lc_size, hx]) (by rw [h.wide, lc_size, hx]) (lc_one x)
theorem Ln.put {w : World} {g : Nat} {l x : List Int} (h : Ln w g l) (hx : x.length = 8) : Ln (w.setRow g (lc x)) g x := by
  have e : w.heap[g]? = some (.cells (lc l) 36 (0, 0)) := h.1
  refine ⟨?_, hx⟩
  unfold Whole
  simp [World.setRow, Array.getElem?_modify, e]
theorem Ln.past {w : World} {g g' : Nat} {l : List Int} {c : Array Value} (h : Ln w g l) (hne : g ≠ g') : Ln (w.setRow g' c) g l := by
  have e : w.heap[g]? = some (.cells (lc l) 36 (0, 0)) := h.1
  refine ⟨?_, h.2⟩
  unfold Whole
  rw [← e]
  simp only [World.setRow, Array.getElem?_modify]
  rw [if_neg (fun e => hne e.symm)]
theorem below_row {B : Nat} {w w1 : World} {g : Nat} {c : Array Value} (h : Below B w w1) (hg : B ≤ g) : Below B w (w1.setRow g c) := by
  refine h.trans ⟨rfl, rfl, rfl, by simp [World.setRow], fun k hk => ?_⟩
  simp only [World.setRow, Array.getElem?_modify]
  rw [if_neg (by omega)]

@[go_sem] theorem load_new (w : World) (l : List Int) (h : l.length = 8) : (lineLoad (.pointer (some ⟨w.heap.size, 0, none⟩))).run Try.prog (w.alloc (.cells (lc l) 36)) = .ok (.agg (lc l)) (w.alloc (.cells (lc l) 36)) := (Ln.new w h).load
@[go_sem] theorem store_new (w : World) (z l : List Int) (hz : z.length = 8) (h : l.length = 8) : (lineStore (.pointer (some ⟨w.heap.size, 0, none⟩)) (.agg (lc l))).run Try.prog (w.alloc (.cells (lc z) 36)) = .ok () (w.alloc (.cells (lc l) 36)) := by
  rw [(Ln.new w hz).store h, World.setRow_alloc_new]

@[go_sem] theorem store_new1 (w : World) (z l : List Int) (o : Obj) (hz : z.length = 8) (h : l.length = 8) : (lineStore (.pointer (some ⟨w.heap.size, 0, none⟩)) (.agg (lc l))).run Try.prog ((w.alloc (.cells (lc z) 36)).alloc o) = .ok () ((w.alloc (.cells (lc l) 36)).alloc o) := by
  rw [((Ln.new w hz).alloc o).store h]
  congr 1
  simp only [World.setRow, World.alloc]
  congr 1
  apply Array.ext_getElem?
  intro i
  rw [Array.getElem?_modify]
  by_cases h1 : w.heap.size = i
  · subst h1
    simp [Array.getElem?_push]
  · have h2 : ¬ i = w.heap.size := fun e => h1 e.symm
    simp [h1, h2, Array.getElem?_push]
@[go_sem] theorem store_new2 (w : World) (z l : List Int) (o : Obj) (hz : z.length = 8) (h : l.length = 8) : (lineStore (.pointer (some ⟨w.heap.size + 1, 0, none⟩)) (.agg (lc l))).run Try.prog ((w.alloc o).alloc (.cells (lc z) 36)) = .ok () ((w.alloc o).alloc (.cells (lc l) 36)) := by
  have := store_new (w.alloc o) z l hz h
  rwa [size_alloc] at this

theorem all_same : ∀ (xs ys : List Int), xs.length = ys.length → ((List.range xs.length).all fun i => xs.getD i 0 == ys.getD i 0) = (xs == ys)
  | [], [], _ => rfl
  | x :: xs, y :: ys, h => by
    have ih := all_same xs ys (by simpa using h)
    rw [List.length_cons, List.range_succ_eq_map, List.all_cons, List.all_map]
    simp only [List.getD_cons_zero, Function.comp_def, List.getD_cons_succ, ih]
    simp [List.cons_beq_cons]
  | [], _ :: _, h => by simp at h
  | _ :: _, [], h => by simp at h

theorem size_u64 (w : World) : (sizeOf 34).run Try.prog w = .ok 1 w := by kernel_rfl

/-- whether two lines are the same -/
@[go_sem] theorem run_same (w : World) (a b : List Int) (ha : a.length = 8) (hb : b.length = 8) : (Op.equalIn 10000 36 (.agg (lc a)) (.agg (lc b))).run Try.prog w = .ok (a == b) w := by
  rw [← all_same a b (ha.trans hb.symm), ha, List.range_eq_range', Op.equalIn]
  simp only [Sem.run_bind, run_underlying Try.underlying36, Result.andThen_ok, size_u64, Std.Legacy.Range.forIn_eq_forIn_range', Std.Legacy.Range.size, Nat.sub_zero, Nat.add_sub_cancel, Nat.div_one]
  have hl : ∀ i ∈ List.range' 0 8 1, i < 8 := fun i hi => by simpa using (List.mem_range'_1.1 hi).2
  generalize List.range' 0 8 1 = l at hl ⊢
  induction l with
  | nil => simp
  | cons i l ih =>
    have hi : i < 8 := hl i (by simp)
    have pp : ∀ c : List Int, c.length = 8 → (part 34 (lc c) (i * 1)).run Try.prog w = .ok (.int .u64 (c.getD i 0)) w := fun c hc => by
      have := lc_at c i (by omega)
      simp [part, isAgg, run_underlying Try.underlying34, List.getD] at this ⊢
      rw [this]; rfl
    have pe : (Op.equalIn 9999 34 (.int .u64 (a.getD i 0)) (.int .u64 (b.getD i 0))).run Try.prog w = .ok (a.getD i 0 == b.getD i 0) w := run_equalIn_int w 9998 _ .u64 .u64 _ _ Try.underlying34
    simp only [List.forIn_cons, Sem.run_bind, pp a ha, pp b hb, pe, Result.andThen_ok, List.all_cons]
    cases hb : (a.getD i 0 == b.getD i 0)
    · simp
    · simp only [Bool.not_true, Bool.false_eq_true, if_false, Sem.run_pure, Result.andThen_ok, Bool.true_and]
      exact ih fun j hj => hl j (by simp [hj])
end Go.Proofs.Ythcecfenjbdgmaa
