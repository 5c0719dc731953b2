/-
  An edit (api.Edit: a word that is to be written), by value, in a variable, in a slice: how it came in, how it reads, how it is built, whether two are the same.
-/
import Derived.Test.YtnlhjppjgjobkaaCrp
import Derived.Test.YtnlhjppjgjobkaaElm
import Derived.Lib.Tables
import Derived.Deep.WholeRow
namespace Go.Proofs.Ytnlhjppjgjobkaa
set_option maxRecDepth 100000
open Go.ChangeShapes Go.WideShapes Go.ChangeAt Go.RowKit

def Ed.cells (b : Ed) : List Value := [.int .i64 b.w, .int .u64 b.v]
def ec (b : Ed) : Array Value := b.cells.toArray
structure Ed.Wf (b : Ed) : Prop where
  ww : (Lit.int .i64 b.w).wf = true
  wv : (Lit.int .u64 b.v).wf = true
theorem u64_of {a : Int} (h1 : 0 ≤ a) (h2 : a ≤ 18446744073709551615) : (Lit.int .u64 a).wf = true := by simp [Lit.wf, IntKind.min, IntKind.max, IntKind.signed, IntKind.bits, h1, h2]
theorem Ed.wf_of {b : Ed} (h1 : -9223372036854775808 ≤ b.w) (h2 : b.w ≤ 9223372036854775807) (h3 : 0 ≤ b.v) (h4 : b.v ≤ 18446744073709551615) : b.Wf := ⟨i64_of h1 h2, u64_of h3 h4⟩

theorem cells_edit : Try.prog.cellsOf 43 = 2 := by kernel_rfl
theorem cells_int_e : Try.prog.cellsOf 3 = 1 := by kernel_rfl
theorem cells_u64_e : Try.prog.cellsOf 41 = 1 := by kernel_rfl
theorem info_edit : (Try.prog.info? 43).map (·.size) = some 2 := by kernel_rfl
theorem trod_ed2 {H : Type} {enc : TypeId × Value → H} {P : Program} {w : World} {base : Nat} {spare : Nat → Bool} {held : Bool} {t : TypeId} {f0 f1 : Field} {fuel : Nat} {cs : List Value} {x : DataW H × List MemPlace}
    (ht : P.underlying t = some (.struct #[f0, f1])) (h : DataW.trod enc P w base spare held fuel t cs = some x) :
    ∃ y0 y1 n, cs.length = P.cellsOf t ∧ DataW.trod enc P w base spare held n f0.type ((cs.drop f0.offset).take (P.cellsOf f0.type)) = some y0 ∧
      DataW.trod enc P w base spare held n f1.type ((cs.drop f1.offset).take (P.cellsOf f1.type)) = some y1 := by
  obtain ⟨xs, n, _, rfl, hl, hlen, hf⟩ := DataW.trod_struct ht h
  match xs, hlen with
  | [y0, y1], _ => exact ⟨y0, y1, n, hl, by simpa using hf 0 f0 rfl, by simpa using hf 1 f1 rfl⟩
/-- its cells that read -/
theorem edit_cells {H : Type} {enc : TypeId × Value → H} {W : World} {base n : Nat} {sp : Nat → Bool} {held : Bool} {cs : List Value} {y : DataW H × List MemPlace}
    (h : DataW.trod enc Try.prog W base sp held n 43 cs = some y) : ∃ c : Ed, cs = c.cells ∧ c.Wf := by
  obtain ⟨y0, y1, k, hl, g0, g1⟩ := trod_ed2 Try.underlying43 h
  rw [cells_edit] at hl
  dsimp only at g0 g1
  rw [cells_int_e] at g0
  rw [cells_u64_e] at g1
  obtain ⟨i, e0, _, w0⟩ := DataW.trod_int Try.underlying3 g0
  obtain ⟨s, e1, _, w1⟩ := DataW.trod_int Try.underlying41 g1
  refine ⟨⟨i, s⟩, ?_, ⟨w0, w1⟩⟩
  match cs, hl with
  | [c0, c1], _ =>
    simp at e0 e1
    simp [Ed.cells, e0, e1]

/-- slices of them -/
def edE : Elm Try.prog Ed where
  t := 24
  e := 43
  size := 2
  bytes := 16
  z := .agg #[.int .i64 0, .int .u64 0]
  enc := Ed.cells
  ok := Ed.Wf
  ht := Try.underlying24
  hi := by kernel_rfl
  hzs := rfl
  pos := by decide
  bpos := by decide
  len := fun _ _ => rfl
  one := fun a _ u hu => by
    simp only [Ed.cells, List.mem_cons, List.not_mem_nil, or_false] at hu
    rcases hu with rfl | rfl <;> rfl
theorem edits_in {H : Type} {enc : TypeId × Value → H} {W : World} {base : Nat} {v : Value} {d : DataW H} {p : List MemPlace}
    (hval : Value.okWide Try.prog W .any base 24 v) (h : DataW.Trod enc Try.prog W 0 (fun _ => true) true 24 v d p) : ∃ l : List Ed, RA edE W v l := by
  obtain ⟨va, vl, vc, rfl⟩ := okWide_slice Try.underlying24 hval
  obtain ⟨fuel, hf⟩ := h
  obtain ⟨u, l, e, hr⟩ := elems_in edE hf (fun _ _ _ hy _ => edit_cells hy)
  have e' : Value.slice va vl vc = u := by simpa [Value.cells] using e
  exact ⟨l, by rw [e']; exact hr⟩

@[go_sem] theorem ec_ne (b : Ed) : (ec b = #[]) = False := by simp [ec, Ed.cells]
theorem ec_one (b : Ed) : (ec b).all (·.oneCell') = true := by simp [ec, Ed.cells, Value.oneCell']
theorem ec_size (b : Ed) : (ec b).size = 2 := rfl
/-- block g holds it -/
def Ev (w : World) (g : Nat) (b : Ed) : Prop := Whole w g 43 (ec b)
section
variable {w w' : World} {g : Nat} {b : Ed}
theorem Ev.lt (h : Ev w g b) : g < w.heap.size := Whole.lt h
theorem Ev.below (h : Ev w g b) (hb : Below w.heap.size w w') : Ev w' g b := (hb.block g (Whole.lt h)).trans h
theorem Ev.new (w : World) (b : Ed) : Ev (w.alloc (.cells (ec b) 43)) w.heap.size b := heap_alloc_new w _
theorem Ev.c0 (h : Ev w g b) : w.cell? ⟨g, 0, none⟩ = some (.int .i64 b.w) := Whole.at_ h 0
theorem Ev.c1 (h : Ev w g b) : w.cell? ⟨g, 1, none⟩ = some (.int .u64 b.v) := Whole.at_ h 1
end
/-- a whole one loaded, stored -/
def edLoad (p : Value) : Sem Value := Instr.loadAt 43 p
def edStore (p v : Value) : Sem Unit := Instr.storeAt 43 p v
@[go_sem ↓] theorem loadAt_ed (p : Value) : Instr.loadAt 43 p = edLoad p := rfl
@[go_sem ↓] theorem storeAt_ed (p v : Value) : Instr.storeAt 43 p v = edStore p v := rfl
theorem run_edLoad {w : World} {b o : Nat} {c : Ed} (h : w.rangeAt b o c.cells) : (edLoad (.pointer (some ⟨b, o, none⟩))).run Try.prog w = .ok (.agg (ec c)) w :=
  run_loadAt_mid (P := Try.prog) w b o 43 c.cells _ h Try.underlying43 rfl info_edit
theorem run_edStore (w : World) {z : Array Value} (hz : z.size = 2) (c : Ed) :
    (edStore (.pointer (some ⟨w.heap.size, 0, none⟩)) (.agg (ec c))).run Try.prog (w.alloc (.cells z 43)) = .ok () (w.alloc (.cells (ec c) 43)) := by
  unfold edStore
  simp only [Instr.storeAt, Instr.sureAddr, Sem.run_bind, Sem.run_pure, Result.andThen]
  rw [run_storeVar_row _ _ 43 43 z (ec c) (heap_alloc_new w _) (by rw [info_edit, ec_size]) (by rw [hz, ec_size]) (ec_one c), World.setRow_alloc_new]
@[go_sem] theorem ed_store_new (w : World) (c : Ed) :
    (edStore (.pointer (some ⟨w.heap.size, 0, none⟩)) (.agg (ec c))).run Try.prog (w.alloc (.cells #[.int .i64 0, .int .u64 0] 43)) = .ok () (w.alloc (.cells (ec c) 43)) :=
  run_edStore w rfl c
/-- the k-th of a slice: loaded whole; its parts -/
theorem ed_at {w : World} {p : Option Addr} {n cap : Nat} {l : List Ed} (h : RA edE w (.slice p n cap) l) (h0 : 0 < l.length) :
    ∃ b off, p = some ⟨b, off, none⟩ ∧ b < w.heap.size ∧ ∀ k, k < l.length → (edLoad (.pointer (some ⟨b, off + k * 2, none⟩))).run Try.prog w = .ok (.agg (ec (l.getD k default))) w ∧
      w.cell? ⟨b, off + k * 2, none⟩ = some (.int .i64 (l.getD k default).w) ∧ w.cell? ⟨b, off + k * 2 + 1, none⟩ = some (.int .u64 (l.getD k default).v) ∧ (l.getD k default).Wf := by
  obtain ⟨b, off, e, hb, hr⟩ := ra_at h h0
  refine ⟨b, off, e, hb, fun k hk => ?_⟩
  have hk2 := hr k hk
  exact ⟨run_edLoad hk2, hk2 0 _ rfl, hk2 1 _ rfl, (ra_ok h).at_ hk⟩
theorem ed_boxed (w : World) (c : Ed) : ∃ W, w.alloc (.cells (ec c) 43) = W ∧ Hid (Ev W w.heap.size c ∧ Below w.heap.size w W) :=
  ⟨_, rfl, Lib.hid ⟨Ev.new w c, bal (Below.refl _ _)⟩⟩
/-- built -/
theorem built_ed2 (a s : Int) : Try.prog.built 43 [(0, .int .i64 a), (1, .int .u64 s)] = some (ec ⟨a, s⟩) := by kernel_rfl
theorem built_ed1 (a : Int) : Try.prog.built 43 [(0, .int .i64 a)] = some (ec ⟨a, 0⟩) := by kernel_rfl
def edBuild (ps : Array (Nat × Value)) : Sem Value := Instr.build 43 ps
@[go_sem ↓] theorem build_ed (ps : Array (Nat × Value)) : Instr.build 43 ps = edBuild ps := rfl
@[go_sem] theorem run_edBuild2 (w : World) (a s : Int) : (edBuild #[(0, .int .i64 a), (1, .int .u64 s)]).run Try.prog w = .ok (.agg (ec ⟨a, s⟩)) w := run_build w _ _ _ (built_ed2 a s)
@[go_sem] theorem run_edBuild1 (w : World) (a : Int) : (edBuild #[(0, .int .i64 a)]).run Try.prog w = .ok (.agg (ec ⟨a, 0⟩)) w := run_build w _ _ _ (built_ed1 a)
theorem built_eds1 (w : World) (a s : Int) : (Instr.buildSlice 24 1 #[(0, .agg #[.int .i64 a, .int .u64 s])]).run Try.prog w = .ok (.slice (some ⟨w.heap.size, 0, none⟩) 1 1) (w.alloc (.cells #[.int .i64 a, .int .u64 s] 43)) := by
  simp [Instr.buildSlice, run_underlying Try.underlying24, Instr.fill, go_sem]
def edSlice (n : Nat) (ps : Array (Nat × Value)) : Sem Value := Instr.buildSlice 24 n ps
@[go_sem ↓] theorem slice_ed (n : Nat) (ps : Array (Nat × Value)) : Instr.buildSlice 24 n ps = edSlice n ps := rfl
@[go_sem] theorem run_edSlice1 (w : World) (c : Ed) : (edSlice 1 #[(0, .agg (ec c))]).run Try.prog w = .ok (.slice (some ⟨w.heap.size, 0, none⟩) 1 1) (w.alloc (.cells (ec c) 43)) := built_eds1 w c.w c.v
theorem ed_one (w : World) {c : Ed} (h : c.Wf) : OwnA edE w.heap.size (w.alloc (.cells (ec c) 43)) (.slice (some ⟨w.heap.size, 0, none⟩) 1 1) [c] := by
  have := own_lit_a edE w (l := [c]) (fun x hx => by rw [List.mem_singleton.1 hx]; exact h) (by unfold maxLen; simp)
  simpa [edE, ec] using this
/-- whether two are the same -/
def eqE (x y : Ed) : Bool := x.w == y.w && x.v == y.v
theorem eqE_self (x : Ed) : eqE x x = true := by simp [eqE]
theorem fields_ed : Try.prog.underlying 43 = some (.struct (Try.prog.fieldsOf 43)) := by kernel_rfl
theorem stood_ed : Try.prog.stoodInHeld 43 = false := by kernel_rfl
theorem part_e (w : World) (b : Ed) : (part 3 (ec b) 0).run Try.prog w = .ok (.int .i64 b.w) w ∧ (part 41 (ec b) 1).run Try.prog w = .ok (.int .u64 b.v) w := by
  refine ⟨?_, ?_⟩ <;> simp [part, isAgg, run_underlying Try.underlying3, run_underlying Try.underlying41, ec, Ed.cells]
@[go_sem high] theorem run_eqE (w : World) (x y : Ed) : (Op.equalIn 10000 43 (.agg (ec x)) (.agg (ec y))).run Try.prog w = .ok (eqE x y) w := by
  obtain ⟨p0, p1⟩ := part_e w x
  obtain ⟨q0, q1⟩ := part_e w y
  have a0 := run_equalIn_int (P := Try.prog) w 9998 3 .i64 .i64 x.w y.w Try.underlying3
  have a1 := run_equalIn_int (P := Try.prog) w 9998 41 .u64 .u64 x.v y.v Try.underlying41
  rw [run_equalIn_struct w 9999 43 (ec x) (ec y) fields_ed stood_ed, Program.fieldsOf, Try.underlying43]
  simp only [Op.eqFields, Sem.run_bind, Sem.run_ite, p0, p1, q0, q1, a0, a1, Result.andThen_ok, Sem.run_pure]
  unfold eqE
  cases (x.w == y.w) <;> cases (x.v == y.v) <;> simp
section
variable {ops : Array Oper} {rest : List Oper} {o : Oper} {a : Act} {w : World} {Q : Exit → Act → World → Prop} {K : Act → World → Prop}
theorem app_ed (hgd : o.guard = none) (s x : Operand) (ho : o.op = .call { callee := .builtin .append, args := #[s, x], argTypes := #[24, 24] }) (B : Nat) (v : Value) (l : List Ed) (hs : a.eval s = v) (hown : OwnA edE B w v l)
    (u : Value) (r : List Ed) (hx : a.eval x = u) (hr : RA edE w u r) (hlen : Hid (l.length + r.length ≤ 4000)) (hB : B ≤ w.heap.size)
    (h : ∀ v' w', OwnA edE B w' v' (l ++ r) → w.grownBy w' v.ownBlock → (v'.ownBlock = v.ownBlock ∨ v'.ownBlock = some w.heap.size) → wpList Try.prog ops Q rest (a.put o.dst v') w') : wpList Try.prog ops Q (o :: rest) a w :=
  list_app edE hgd s x ho B v l hs hown u r hx hr (by have := hlen.out; show _ * 16 ≤ _; omega) hB h
theorem step_ed {F : Prop} (hgd : o.guard = none) (s x : Operand) (ho : o.op = .call { callee := .builtin .append, args := #[s, x], argTypes := #[24, 24] }) (B : Nat) (v : Value) (l : List Ed) (hs : a.eval s = v) (hown : OwnA edE B w v l)
    (u : Value) (r : List Ed) (hx : a.eval x = u) (hr : RA edE w u r) (hlen : Hid (l.length + r.length ≤ 4000)) (hB : B ≤ w.heap.size)
    (h : ∀ v' w', OwnA edE B w' v' (l ++ r) → w.grownBy w' v.ownBlock → (v'.ownBlock = v.ownBlock ∨ v'.ownBlock = some w.heap.size) → K (a.put o.dst v') w') : if Region.wanted o (yielded ops a.tmps) = true then o.wp Try.prog a w K Q else F :=
  step_app edE hgd s x ho B v l hs hown u r hx hr (by have := hlen.out; show _ * 16 ≤ _; omega) hB h
end
end Go.Proofs.Ytnlhjppjgjobkaa
