/-
  Parts of words as elements of slices: how they read, how they are built, whether two are the same.
-/
import Derived.Test.YtnlhjppjgjobkaaByp
import Derived.Test.YtnlhjppjgjobkaaElm
import Derived.Lib.Tables
import Derived.Deep.WholeRow
namespace Go.Proofs.Ytnlhjppjgjobkaa
set_option maxRecDepth 100000
open Go.ChangeShapes Go.WideShapes Go.ChangeAt Go.RowKit

def Pc.cells (b : Pc) : List Value := [.int .i64 b.w, .int .i64 b.f, .int .i64 b.n]
def pc (b : Pc) : Array Value := b.cells.toArray
theorem info_pc : (Try.prog.info? 29).map (·.size) = some 3 := by kernel_rfl
/-- slices of them -/
def pcE : Elm Try.prog Pc where
  t := 26
  e := 29
  size := 3
  bytes := 24
  z := .agg #[.int .i64 0, .int .i64 0, .int .i64 0]
  enc := Pc.cells
  ok := fun _ => True
  ht := Try.underlying26
  hi := by kernel_rfl
  hzs := rfl
  pos := by decide
  bpos := by decide
  len := fun _ _ => rfl
  one := fun a _ u hu => by
    simp only [Pc.cells, List.mem_cons, List.not_mem_nil, or_false] at hu
    rcases hu with rfl | rfl | rfl <;> rfl
@[go_sem] theorem pc_ne (b : Pc) : (pc b = #[]) = False := by simp [pc, Pc.cells]
theorem pc_one (b : Pc) : (pc b).all (·.oneCell') = true := by simp [pc, Pc.cells, Value.oneCell']
theorem pc_size (b : Pc) : (pc b).size = 3 := rfl
/-- block g holds it -/
def Pv (w : World) (g : Nat) (b : Pc) : Prop := Whole w g 29 (pc b)
section
variable {w w' : World} {g : Nat} {b : Pc}
theorem Pv.lt (h : Pv w g b) : g < w.heap.size := Whole.lt h
theorem Pv.below (h : Pv w g b) (hb : Below w.heap.size w w') : Pv w' g b := (hb.block g (Whole.lt h)).trans h
theorem Pv.new (w : World) (b : Pc) : Pv (w.alloc (.cells (pc b) 29)) w.heap.size b := heap_alloc_new w _
theorem Pv.c0 (h : Pv w g b) : w.cell? ⟨g, 0, none⟩ = some (.int .i64 b.w) := Whole.at_ h 0
theorem Pv.c1 (h : Pv w g b) : w.cell? ⟨g, 1, none⟩ = some (.int .i64 b.f) := Whole.at_ h 1
theorem Pv.c2 (h : Pv w g b) : w.cell? ⟨g, 2, none⟩ = some (.int .i64 b.n) := Whole.at_ h 2
end
def pcLoad (p : Value) : Sem Value := Instr.loadAt 29 p
def pcStore (p v : Value) : Sem Unit := Instr.storeAt 29 p v
@[go_sem ↓] theorem loadAt_pc (p : Value) : Instr.loadAt 29 p = pcLoad p := rfl
@[go_sem ↓] theorem storeAt_pc (p v : Value) : Instr.storeAt 29 p v = pcStore p v := rfl
theorem run_pcLoad {w : World} {b o : Nat} {c : Pc} (h : w.rangeAt b o c.cells) : (pcLoad (.pointer (some ⟨b, o, none⟩))).run Try.prog w = .ok (.agg (pc c)) w :=
  run_loadAt_mid (P := Try.prog) w b o 29 c.cells _ h Try.underlying29 rfl info_pc
theorem run_pcStore (w : World) {z : Array Value} (hz : z.size = 3) (c : Pc) :
    (pcStore (.pointer (some ⟨w.heap.size, 0, none⟩)) (.agg (pc c))).run Try.prog (w.alloc (.cells z 29)) = .ok () (w.alloc (.cells (pc c) 29)) := by
  unfold pcStore
  simp only [Instr.storeAt, Instr.sureAddr, Sem.run_bind, Sem.run_pure, Result.andThen]
  rw [run_storeVar_row _ _ 29 29 z (pc c) (heap_alloc_new w _) (by rw [info_pc, pc_size]) (by rw [hz, pc_size]) (pc_one c), World.setRow_alloc_new]
@[go_sem] theorem pc_store_new (w : World) (c : Pc) :
    (pcStore (.pointer (some ⟨w.heap.size, 0, none⟩)) (.agg (pc c))).run Try.prog (w.alloc (.cells #[.int .i64 0, .int .i64 0, .int .i64 0] 29)) = .ok () (w.alloc (.cells (pc c) 29)) :=
  run_pcStore w rfl c
theorem pc_at {w : World} {p : Option Addr} {n cap : Nat} {l : List Pc} (h : RA pcE w (.slice p n cap) l) (h0 : 0 < l.length) :
    ∃ b off, p = some ⟨b, off, none⟩ ∧ b < w.heap.size ∧ ∀ k, k < l.length → (pcLoad (.pointer (some ⟨b, off + k * 3, none⟩))).run Try.prog w = .ok (.agg (pc (l.getD k default))) w ∧
      w.cell? ⟨b, off + k * 3, none⟩ = some (.int .i64 (l.getD k default).w) ∧ w.cell? ⟨b, off + k * 3 + 1, none⟩ = some (.int .i64 (l.getD k default).f) ∧ w.cell? ⟨b, off + k * 3 + 2, none⟩ = some (.int .i64 (l.getD k default).n) := by
  obtain ⟨b, off, e, hb, hr⟩ := ra_at h h0
  refine ⟨b, off, e, hb, fun k hk => ?_⟩
  have hk2 := hr k hk
  exact ⟨run_pcLoad hk2, hk2 0 _ rfl, hk2 1 _ rfl, hk2 2 _ rfl⟩
theorem pc_boxed (w : World) (c : Pc) : ∃ W, w.alloc (.cells (pc c) 29) = W ∧ Hid (Pv W w.heap.size c ∧ Below w.heap.size w W) :=
  ⟨_, rfl, Lib.hid ⟨Pv.new w c, bal (Below.refl _ _)⟩⟩
theorem built_pc3 (a b c : Int) : Try.prog.built 29 [(0, .int .i64 a), (1, .int .i64 b), (2, .int .i64 c)] = some #[.int .i64 a, .int .i64 b, .int .i64 c] := by kernel_rfl
theorem built_pc12 (b c : Int) : Try.prog.built 29 [(1, .int .i64 b), (2, .int .i64 c)] = some #[.int .i64 0, .int .i64 b, .int .i64 c] := by kernel_rfl
theorem built_pc02 (a c : Int) : Try.prog.built 29 [(0, .int .i64 a), (2, .int .i64 c)] = some #[.int .i64 a, .int .i64 0, .int .i64 c] := by kernel_rfl
def pcBuild (ps : Array (Nat × Value)) : Sem Value := Instr.build 29 ps
@[go_sem ↓] theorem build_pc (ps : Array (Nat × Value)) : Instr.build 29 ps = pcBuild ps := rfl
@[go_sem] theorem run_pcBuild3 (w : World) (a b c : Nat) : (pcBuild #[(0, .int .i64 a), (1, .int .i64 b), (2, .int .i64 c)]).run Try.prog w = .ok (.agg (pc ⟨a, b, c⟩)) w := run_build w _ _ _ (built_pc3 a b c)
@[go_sem] theorem run_pcBuild12 (w : World) : (pcBuild #[(1, .int .i64 6), (2, .int .i64 2)]).run Try.prog w = .ok (.agg (pc ⟨0, 6, 2⟩)) w := run_build w _ _ _ (built_pc12 6 2)
@[go_sem] theorem run_pcBuild02 (w : World) : (pcBuild #[(0, .int .i64 1), (2, .int .i64 2)]).run Try.prog w = .ok (.agg (pc ⟨1, 0, 2⟩)) w := run_build w _ _ _ (built_pc02 1 2)
theorem built_pcs1 (w : World) (a b c : Int) : (Instr.buildSlice 26 1 #[(0, .agg #[.int .i64 a, .int .i64 b, .int .i64 c])]).run Try.prog w = .ok (.slice (some ⟨w.heap.size, 0, none⟩) 1 1) (w.alloc (.cells #[.int .i64 a, .int .i64 b, .int .i64 c] 29)) := by
  simp [Instr.buildSlice, run_underlying Try.underlying26, Instr.fill, go_sem]
def pcSlice (n : Nat) (ps : Array (Nat × Value)) : Sem Value := Instr.buildSlice 26 n ps
@[go_sem ↓] theorem slice_pc (n : Nat) (ps : Array (Nat × Value)) : Instr.buildSlice 26 n ps = pcSlice n ps := rfl
@[go_sem] theorem run_pcSlice1 (w : World) (c : Pc) : (pcSlice 1 #[(0, .agg (pc c))]).run Try.prog w = .ok (.slice (some ⟨w.heap.size, 0, none⟩) 1 1) (w.alloc (.cells (pc c) 29)) := built_pcs1 w c.w c.f c.n
theorem pc_oneA (w : World) (c : Pc) : OwnA pcE w.heap.size (w.alloc (.cells (pc c) 29)) (.slice (some ⟨w.heap.size, 0, none⟩) 1 1) [c] := by
  have := own_lit_a pcE w (l := [c]) (fun x _ => trivial) (by unfold maxLen; simp)
  simpa [pcE, pc] using this
/-- whether two are the same -/
def eqP (x y : Pc) : Bool := ((x.w : Int) == y.w && (x.f : Int) == y.f) && (x.n : Int) == y.n
theorem eqP_self (x : Pc) : eqP x x = true := by simp [eqP]
theorem fields_pc : Try.prog.underlying 29 = some (.struct (Try.prog.fieldsOf 29)) := by kernel_rfl
theorem stood_pc : Try.prog.stoodInHeld 29 = false := by kernel_rfl
theorem part_p (w : World) (b : Pc) : (part 3 (pc b) 0).run Try.prog w = .ok (.int .i64 b.w) w ∧ (part 3 (pc b) 1).run Try.prog w = .ok (.int .i64 b.f) w ∧ (part 3 (pc b) 2).run Try.prog w = .ok (.int .i64 b.n) w := by
  refine ⟨?_, ?_, ?_⟩ <;> simp [part, isAgg, run_underlying Try.underlying3, pc, Pc.cells]
@[go_sem high] theorem run_eqP (w : World) (x y : Pc) : (Op.equalIn 10000 29 (.agg (pc x)) (.agg (pc y))).run Try.prog w = .ok (eqP x y) w := by
  obtain ⟨p0, p1, p2⟩ := part_p w x
  obtain ⟨q0, q1, q2⟩ := part_p w y
  have a0 := run_equalIn_int (P := Try.prog) w 9998 3 .i64 .i64 x.w y.w Try.underlying3
  have a1 := run_equalIn_int (P := Try.prog) w 9998 3 .i64 .i64 x.f y.f Try.underlying3
  have a2 := run_equalIn_int (P := Try.prog) w 9998 3 .i64 .i64 x.n y.n Try.underlying3
  rw [run_equalIn_struct w 9999 29 (pc x) (pc y) fields_pc stood_pc, Program.fieldsOf, Try.underlying29]
  simp only [Op.eqFields, Sem.run_bind, Sem.run_ite, p0, p1, p2, q0, q1, q2, a0, a1, a2, Result.andThen_ok, Sem.run_pure]
  unfold eqP
  cases ((x.w : Int) == y.w) <;> cases ((x.f : Int) == y.f) <;> cases ((x.n : Int) == y.n) <;> simp
section
variable {ops : Array Oper} {rest : List Oper} {o : Oper} {a : Act} {w : World} {Q : Exit → Act → World → Prop} {K : Act → World → Prop}
theorem app_pc (hgd : o.guard = none) (s x : Operand) (ho : o.op = .call { callee := .builtin .append, args := #[s, x], argTypes := #[26, 26] }) (B : Nat) (v : Value) (l : List Pc) (hs : a.eval s = v) (hown : OwnA pcE B w v l)
    (u : Value) (r : List Pc) (hx : a.eval x = u) (hr : RA pcE w u r) (hlen : Hid (l.length + r.length ≤ 4000)) (hB : B ≤ w.heap.size)
    (h : ∀ v' w', OwnA pcE B w' v' (l ++ r) → w.grownBy w' v.ownBlock → (v'.ownBlock = v.ownBlock ∨ v'.ownBlock = some w.heap.size) → wpList Try.prog ops Q rest (a.put o.dst v') w') : wpList Try.prog ops Q (o :: rest) a w :=
  list_app pcE hgd s x ho B v l hs hown u r hx hr (by have := hlen.out; show _ * 24 ≤ _; omega) hB h
end
end Go.Proofs.Ytnlhjppjgjobkaa
