/-
  A block (api.Block), by value, in a variable, in a slice: how it came in, how it reads, how it is built, whether two are the same.
-/
import Derived.Test.YtlpbdnfecnochaaBkp
import Derived.Test.YtlpbdnfecnochaaElm
import Derived.Lib.Tables
import Derived.Deep.WholeRow
namespace Go.Proofs.Ytlpbdnfecnochaa
set_option maxRecDepth 100000
open Go.ChangeShapes Go.WideShapes Go.ChangeAt Go.RowKit

def Bk.cells (b : Bk) : List Value := [.int .i64 b.a, .int .i64 b.s, .bool b.u]
def bc (b : Bk) : Array Value := b.cells.toArray
structure Bk.Wf (b : Bk) : Prop where
  wa : (Lit.int .i64 b.a).wf = true
  ws : (Lit.int .i64 b.s).wf = true
theorem Bk.wf_of {b : Bk} (h1 : -9223372036854775808 ≤ b.a) (h2 : b.a ≤ 9223372036854775807) (h3 : -9223372036854775808 ≤ b.s) (h4 : b.s ≤ 9223372036854775807) : b.Wf := ⟨i64_of h1 h2, i64_of h3 h4⟩

theorem cells_block : Try.prog.cellsOf 35 = 3 := by kernel_rfl
theorem cells_int_b : Try.prog.cellsOf 3 = 1 := by kernel_rfl
theorem cells_bool_b : Try.prog.cellsOf 4 = 1 := by kernel_rfl
theorem info_block : (Try.prog.info? 35).map (·.size) = some 3 := by kernel_rfl
theorem trod_three {H : Type} {enc : TypeId × Value → H} {P : Program} {w : World} {base : Nat} {spare : Nat → Bool} {held : Bool} {t : TypeId} {f0 f1 f2 : Field} {fuel : Nat} {cs : List Value} {x : DataW H × List MemPlace}
    (ht : P.underlying t = some (.struct #[f0, f1, f2])) (h : DataW.trod enc P w base spare held fuel t cs = some x) :
    ∃ y0 y1 y2 n, cs.length = P.cellsOf t ∧ DataW.trod enc P w base spare held n f0.type ((cs.drop f0.offset).take (P.cellsOf f0.type)) = some y0 ∧
      DataW.trod enc P w base spare held n f1.type ((cs.drop f1.offset).take (P.cellsOf f1.type)) = some y1 ∧ DataW.trod enc P w base spare held n f2.type ((cs.drop f2.offset).take (P.cellsOf f2.type)) = some y2 := by
  obtain ⟨xs, n, _, rfl, hl, hlen, hf⟩ := DataW.trod_struct ht h
  match xs, hlen with
  | [y0, y1, y2], _ => exact ⟨y0, y1, y2, n, hl, by simpa using hf 0 f0 rfl, by simpa using hf 1 f1 rfl, by simpa using hf 2 f2 rfl⟩
/-- its cells that read -/
theorem block_cells {H : Type} {enc : TypeId × Value → H} {W : World} {base n : Nat} {sp : Nat → Bool} {held : Bool} {cs : List Value} {y : DataW H × List MemPlace}
    (h : DataW.trod enc Try.prog W base sp held n 35 cs = some y) : ∃ c : Bk, cs = c.cells ∧ c.Wf := by
  obtain ⟨y0, y1, y2, k, hl, g0, g1, g2⟩ := trod_three Try.underlying35 h
  rw [cells_block] at hl
  dsimp only at g0 g1 g2
  rw [cells_int_b] at g0 g1
  rw [cells_bool_b] at g2
  obtain ⟨i, e0, _, w0⟩ := DataW.trod_int Try.underlying3 g0
  obtain ⟨s, e1, _, w1⟩ := DataW.trod_int Try.underlying3 g1
  obtain ⟨u, e2, _⟩ := DataW.trod_bool Try.underlying4 g2
  refine ⟨⟨i, s, u⟩, ?_, ⟨w0, w1⟩⟩
  match cs, hl with
  | [c0, c1, c2], _ =>
    simp at e0 e1 e2
    simp [Bk.cells, e0, e1, e2]

/-- slices of them -/
def blkE : Elm Try.prog Bk where
  t := 22
  e := 35
  size := 3
  bytes := 24
  z := .agg #[.int .i64 0, .int .i64 0, .bool false]
  enc := Bk.cells
  ok := Bk.Wf
  ht := Try.underlying22
  hi := by kernel_rfl
  hzs := rfl
  pos := by decide
  bpos := by decide
  len := fun _ _ => rfl
  one := fun a _ u hu => by
    simp only [Bk.cells, List.mem_cons, List.not_mem_nil, or_false] at hu
    rcases hu with rfl | rfl | rfl <;> rfl
theorem blocks_in {H : Type} {enc : TypeId × Value → H} {W : World} {base : Nat} {v : Value} {d : DataW H} {p : List MemPlace}
    (hval : Value.okWide Try.prog W .any base 22 v) (h : DataW.Trod enc Try.prog W 0 (fun _ => true) true 22 v d p) : ∃ l : List Bk, RA blkE W v l := by
  obtain ⟨va, vl, vc, rfl⟩ := okWide_slice Try.underlying22 hval
  obtain ⟨fuel, hf⟩ := h
  obtain ⟨u, l, e, hr⟩ := elems_in blkE hf (fun _ _ _ hy _ => block_cells hy)
  have e' : Value.slice va vl vc = u := by simpa [Value.cells] using e
  exact ⟨l, by rw [e']; exact hr⟩

@[go_sem] theorem bc_ne (b : Bk) : (bc b = #[]) = False := by simp [bc, Bk.cells]
theorem bc_one (b : Bk) : (bc b).all (·.oneCell') = true := by simp [bc, Bk.cells, Value.oneCell']
theorem bc_size (b : Bk) : (bc b).size = 3 := rfl
/-- block g holds it -/
def Bv (w : World) (g : Nat) (b : Bk) : Prop := Whole w g 35 (bc b)
section
variable {w w' : World} {g : Nat} {b : Bk}
theorem Bv.lt (h : Bv w g b) : g < w.heap.size := Whole.lt h
theorem Bv.below (h : Bv w g b) (hb : Below w.heap.size w w') : Bv w' g b := (hb.block g (Whole.lt h)).trans h
theorem Bv.chg {D : List Nat} (h : Bv w g b) (hb : Chg D w w') (hg : g ∉ D) : Bv w' g b := hb.whole h hg
theorem Bv.new (w : World) (b : Bk) : Bv (w.alloc (.cells (bc b) 35)) w.heap.size b := heap_alloc_new w _
theorem Bv.alloc (h : Bv w g b) (o : Obj) : Bv (w.alloc o) g b := Whole.alloc h o
theorem Bv.c0 (h : Bv w g b) : w.cell? ⟨g, 0, none⟩ = some (.int .i64 b.a) := Whole.at_ h 0
theorem Bv.c1 (h : Bv w g b) : w.cell? ⟨g, 1, none⟩ = some (.int .i64 b.s) := Whole.at_ h 1
theorem Bv.c2 (h : Bv w g b) : w.cell? ⟨g, 2, none⟩ = some (.bool b.u) := Whole.at_ h 2
end
/-- a whole one loaded, stored -/
def blkLoad (p : Value) : Sem Value := Instr.loadAt 35 p
def blkStore (p v : Value) : Sem Unit := Instr.storeAt 35 p v
@[go_sem ↓] theorem loadAt_blk (p : Value) : Instr.loadAt 35 p = blkLoad p := rfl
@[go_sem ↓] theorem storeAt_blk (p v : Value) : Instr.storeAt 35 p v = blkStore p v := rfl
theorem run_blkLoad {w : World} {b o : Nat} {c : Bk} (h : w.rangeAt b o c.cells) : (blkLoad (.pointer (some ⟨b, o, none⟩))).run Try.prog w = .ok (.agg (bc c)) w :=
  run_loadAt_mid (P := Try.prog) w b o 35 c.cells _ h Try.underlying35 rfl info_block
theorem Bv.load {w : World} {g : Nat} {b : Bk} (h : Bv w g b) : (blkLoad (.pointer (some ⟨g, 0, none⟩))).run Try.prog w = .ok (.agg (bc b)) w :=
  run_blkLoad fun j u hj => by rw [Whole.at_ h, Nat.zero_add, ← hj]; simp [bc]
theorem run_blkStore (w : World) {z : Array Value} (hz : z.size = 3) (c : Bk) :
    (blkStore (.pointer (some ⟨w.heap.size, 0, none⟩)) (.agg (bc c))).run Try.prog (w.alloc (.cells z 35)) = .ok () (w.alloc (.cells (bc c) 35)) := by
  unfold blkStore
  simp only [Instr.storeAt, Instr.sureAddr, Sem.run_bind, Sem.run_pure, Result.andThen]
  rw [run_storeVar_row _ _ 35 35 z (bc c) (heap_alloc_new w _) (by rw [info_block, bc_size]) (by rw [hz, bc_size]) (bc_one c), World.setRow_alloc_new]
@[go_sem] theorem blk_store_new (w : World) (c : Bk) :
    (blkStore (.pointer (some ⟨w.heap.size, 0, none⟩)) (.agg (bc c))).run Try.prog (w.alloc (.cells #[.int .i64 0, .int .i64 0, .bool false] 35)) = .ok () (w.alloc (.cells (bc c) 35)) :=
  run_blkStore w rfl c
/-- the k-th of a slice: loaded whole; its parts -/
theorem blk_at {w : World} {p : Option Addr} {n cap : Nat} {l : List Bk} (h : RA blkE w (.slice p n cap) l) (h0 : 0 < l.length) :
    ∃ b off, p = some ⟨b, off, none⟩ ∧ b < w.heap.size ∧ ∀ k, k < l.length → (blkLoad (.pointer (some ⟨b, off + k * 3, none⟩))).run Try.prog w = .ok (.agg (bc (l.getD k default))) w ∧
      w.cell? ⟨b, off + k * 3, none⟩ = some (.int .i64 (l.getD k default).a) ∧ w.cell? ⟨b, off + k * 3 + 1, none⟩ = some (.int .i64 (l.getD k default).s) ∧ w.cell? ⟨b, off + k * 3 + 2, none⟩ = some (.bool (l.getD k default).u) ∧ (l.getD k default).Wf := by
  obtain ⟨b, off, e, hb, hr⟩ := ra_at h h0
  refine ⟨b, off, e, hb, fun k hk => ?_⟩
  have hk2 := hr k hk
  exact ⟨run_blkLoad hk2, hk2 0 _ rfl, hk2 1 _ rfl, hk2 2 _ rfl, (ra_ok h).at_ hk⟩
theorem blk_boxed (w : World) (c : Bk) : ∃ W, w.alloc (.cells (bc c) 35) = W ∧ Hid (Bv W w.heap.size c ∧ Below w.heap.size w W) :=
  ⟨_, rfl, Lib.hid ⟨Bv.new w c, bal (Below.refl _ _)⟩⟩
/-- built -/
theorem built_blk3 (a s : Int) (u : Bool) : Try.prog.built 35 [(0, .int .i64 a), (1, .int .i64 s), (2, .bool u)] = some (bc ⟨a, s, u⟩) := by kernel_rfl
theorem built_blk1 (s : Int) : Try.prog.built 35 [(1, .int .i64 s)] = some (bc ⟨0, s, false⟩) := by kernel_rfl
def blkBuild (ps : Array (Nat × Value)) : Sem Value := Instr.build 35 ps
@[go_sem ↓] theorem build_blk (ps : Array (Nat × Value)) : Instr.build 35 ps = blkBuild ps := rfl
@[go_sem] theorem run_blkBuild3 (w : World) (a s : Int) (u : Bool) : (blkBuild #[(0, .int .i64 a), (1, .int .i64 s), (2, .bool u)]).run Try.prog w = .ok (.agg (bc ⟨a, s, u⟩)) w := run_build w _ _ _ (built_blk3 a s u)
@[go_sem] theorem run_blkBuild1 (w : World) (s : Int) : (blkBuild #[(1, .int .i64 s)]).run Try.prog w = .ok (.agg (bc ⟨0, s, false⟩)) w := run_build w _ _ _ (built_blk1 s)
theorem built_blk2 (a s : Int) : Try.prog.built 35 [(0, .int .i64 a), (1, .int .i64 s)] = some (bc ⟨a, s, false⟩) := by kernel_rfl
@[go_sem] theorem run_blkBuild2 (w : World) (a s : Int) : (blkBuild #[(0, .int .i64 a), (1, .int .i64 s)]).run Try.prog w = .ok (.agg (bc ⟨a, s, false⟩)) w := run_build w _ _ _ (built_blk2 a s)
theorem built_blks2 (w : World) (a s a' s' : Int) (u u' : Bool) : (Instr.buildSlice 22 2 #[(0, .agg #[.int .i64 a, .int .i64 s, .bool u]), (1, .agg #[.int .i64 a', .int .i64 s', .bool u'])]).run Try.prog w = .ok (.slice (some ⟨w.heap.size, 0, none⟩) 2 2) (w.alloc (.cells #[.int .i64 a, .int .i64 s, .bool u, .int .i64 a', .int .i64 s', .bool u'] 35)) := by
  unfold Instr.buildSlice
  simp [run_underlying Try.underlying22, Instr.fill, go_sem]
theorem built_blks0 (w : World) : (Instr.buildSlice 22 0 #[]).run Try.prog w = .ok (.slice (some ⟨w.heap.size, 0, none⟩) 0 0) (w.alloc (.cells #[] 35)) := by
  simp [Instr.buildSlice, run_underlying Try.underlying22, Instr.fill, go_sem]
theorem built_blks1 (w : World) (a s : Int) (u : Bool) : (Instr.buildSlice 22 1 #[(0, .agg #[.int .i64 a, .int .i64 s, .bool u])]).run Try.prog w = .ok (.slice (some ⟨w.heap.size, 0, none⟩) 1 1) (w.alloc (.cells #[.int .i64 a, .int .i64 s, .bool u] 35)) := by
  simp [Instr.buildSlice, run_underlying Try.underlying22, Instr.fill, go_sem]
def blkSlice (n : Nat) (ps : Array (Nat × Value)) : Sem Value := Instr.buildSlice 22 n ps
@[go_sem ↓] theorem slice_blk (n : Nat) (ps : Array (Nat × Value)) : Instr.buildSlice 22 n ps = blkSlice n ps := rfl
@[go_sem] theorem run_blkSlice0 (w : World) : (blkSlice 0 #[]).run Try.prog w = .ok (.slice (some ⟨w.heap.size, 0, none⟩) 0 0) (w.alloc (.cells #[] 35)) := built_blks0 w
@[go_sem] theorem run_blkSlice1 (w : World) (c : Bk) : (blkSlice 1 #[(0, .agg (bc c))]).run Try.prog w = .ok (.slice (some ⟨w.heap.size, 0, none⟩) 1 1) (w.alloc (.cells (bc c) 35)) := built_blks1 w c.a c.s c.u
theorem blk_one (w : World) {c : Bk} (h : c.Wf) : OwnA blkE w.heap.size (w.alloc (.cells (bc c) 35)) (.slice (some ⟨w.heap.size, 0, none⟩) 1 1) [c] := by
  have := own_lit_a blkE w (l := [c]) (fun x hx => by rw [List.mem_singleton.1 hx]; exact h) (by unfold maxLen; simp)
  simpa [blkE, bc] using this
def bc2 (x y : Bk) : Array Value := #[.int .i64 x.a, .int .i64 x.s, .bool x.u, .int .i64 y.a, .int .i64 y.s, .bool y.u]
@[go_sem] theorem run_blkSlice2 (w : World) (x y : Bk) : (blkSlice 2 #[(0, .agg (bc x)), (1, .agg (bc y))]).run Try.prog w = .ok (.slice (some ⟨w.heap.size, 0, none⟩) 2 2) (w.alloc (.cells (bc2 x y) 35)) := built_blks2 w x.a x.s y.a y.s x.u y.u
theorem blk_two (w : World) {x y : Bk} (hx : x.Wf) (hy : y.Wf) : OwnA blkE w.heap.size (w.alloc (.cells (bc2 x y) 35)) (.slice (some ⟨w.heap.size, 0, none⟩) 2 2) [x, y] := by
  have := own_lit_a blkE w (l := [x, y]) (fun z hz => by
    simp only [List.mem_cons, List.not_mem_nil, or_false] at hz
    rcases hz with rfl | rfl
    · exact hx
    · exact hy) (by unfold maxLen; simp)
  exact this
theorem blk_none (w : World) : OwnA blkE w.heap.size (w.alloc (.cells #[] 35)) (.slice (some ⟨w.heap.size, 0, none⟩) 0 0) [] := by
  have := own_lit_a blkE w (l := []) (fun x hx => by cases hx) (Nat.zero_le _)
  simpa [blkE] using this
/-- whether two are the same -/
def eqB (x y : Bk) : Bool := x.a == y.a && (x.s == y.s && x.u == y.u)
theorem eqB_self (x : Bk) : eqB x x = true := by simp [eqB]
theorem eqB_iff {x y : Bk} : eqB x y = true ↔ x = y := by
  obtain ⟨a, s, u⟩ := x
  obtain ⟨a', s', u'⟩ := y
  simp [eqB]
theorem fields_blk : Try.prog.underlying 35 = some (.struct (Try.prog.fieldsOf 35)) := by kernel_rfl
theorem stood_blk : Try.prog.stoodInHeld 35 = false := by kernel_rfl
theorem part_i (w : World) (b : Bk) : (part 3 (bc b) 0).run Try.prog w = .ok (.int .i64 b.a) w ∧ (part 3 (bc b) 1).run Try.prog w = .ok (.int .i64 b.s) w ∧ (part 4 (bc b) 2).run Try.prog w = .ok (.bool b.u) w := by
  refine ⟨?_, ?_, ?_⟩ <;> simp [part, isAgg, run_underlying Try.underlying3, run_underlying Try.underlying4, bc, Bk.cells]
@[go_sem high] theorem run_eqB (w : World) (x y : Bk) : (Op.equalIn 10000 35 (.agg (bc x)) (.agg (bc y))).run Try.prog w = .ok (eqB x y) w := by
  obtain ⟨p0, p1, p2⟩ := part_i w x
  obtain ⟨q0, q1, q2⟩ := part_i w y
  have a0 := run_equalIn_int (P := Try.prog) w 9998 3 .i64 .i64 x.a y.a Try.underlying3
  have a1 := run_equalIn_int (P := Try.prog) w 9998 3 .i64 .i64 x.s y.s Try.underlying3
  have a2 := run_equalIn_bool (P := Try.prog) w 9998 4 x.u y.u Try.underlying4
  rw [run_equalIn_struct w 9999 35 (bc x) (bc y) fields_blk stood_blk, Program.fieldsOf, Try.underlying35]
  simp only [Op.eqFields, Sem.run_bind, Sem.run_ite, p0, p1, p2, q0, q1, q2, a0, a1, a2, Result.andThen_ok, Sem.run_pure]
  unfold eqB
  cases (x.a == y.a) <;> cases (x.s == y.s) <;> cases (x.u == y.u) <;> simp
section
variable {ops : Array Oper} {rest : List Oper} {o : Oper} {a : Act} {w : World} {Q : Exit → Act → World → Prop}
theorem app_blk (hgd : o.guard = none) (s x : Operand) (ho : o.op = .call { callee := .builtin .append, args := #[s, x], argTypes := #[22, 22] }) (B : Nat) (v : Value) (l : List Bk) (hs : a.eval s = v) (hown : OwnA blkE B w v l)
    (u : Value) (r : List Bk) (hx : a.eval x = u) (hr : RA blkE w u r) (hlen : Hid (l.length + r.length ≤ 2000)) (hB : B ≤ w.heap.size)
    (h : ∀ v' w', OwnA blkE B w' v' (l ++ r) → w.grownBy w' v.ownBlock → (v'.ownBlock = v.ownBlock ∨ v'.ownBlock = some w.heap.size) → wpList Try.prog ops Q rest (a.put o.dst v') w') : wpList Try.prog ops Q (o :: rest) a w :=
  list_app blkE hgd s x ho B v l hs hown u r hx hr (by have := hlen.out; show _ * 24 ≤ _; omega) hB h
end
end Go.Proofs.Ytlpbdnfecnochaa
