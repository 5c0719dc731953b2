/-
  Extents (model.extent) as elements: by value, in a variable, in a slice, in slices of slices; a model and the reference's in a block: what they hold.
-/
import Derived.Test.YtkpefnjohdjejaaMop
import Derived.Test.YtkpefnjohdjejaaZma
import Derived.Deep.WholeRow
namespace Go.Proofs.Ytkpefnjohdjejaa
set_option maxRecDepth 100000
open Go.ChangeShapes Go.WideShapes Go.ChangeAt Go.RowKit

/-- a used block, the slice that holds its words, its words -/
structure Ex where
  b : Bk
  v : Value
  ws : List Int
instance : Inhabited Ex := ⟨⟨default, .slice none 0 0, []⟩⟩
def Ex.cells (x : Ex) : List Value := [.int .i64 x.b.a, .int .i64 x.b.s, .bool x.b.u, x.v]
def xc (x : Ex) : Array Value := x.cells.toArray
structure Ex.Wf (x : Ex) : Prop where
  wb : x.b.Wf
  one : x.v.oneCell' = true
theorem info_ext : (Try.prog.info? 84).map (·.size) = some 4 := by kernel_rfl
/-- slices of them -/
def exE : Elm Try.prog Ex where
  t := 75
  e := 84
  size := 4
  bytes := 48
  z := .agg #[.int .i64 0, .int .i64 0, .bool false, .slice none 0 0]
  enc := Ex.cells
  ok := Ex.Wf
  ht := Try.underlying75
  hi := by kernel_rfl
  hzs := rfl
  pos := by decide
  bpos := by decide
  len := fun _ _ => rfl
  one := fun a ha u hu => by
    simp only [Ex.cells, List.mem_cons, List.not_mem_nil, or_false] at hu
    rcases hu with rfl | rfl | rfl | rfl
    · rfl
    · rfl
    · rfl
    · exact ha.one
/-- slices of those -/
def xrowE : Elm Try.prog Value where
  t := 124
  e := 75
  size := 1
  bytes := 24
  z := .slice none 0 0
  enc := fun v => [v]
  ok := fun v => v.oneCell' = true
  ht := Try.underlying124
  hi := by kernel_rfl
  hzs := rfl
  pos := by decide
  bpos := by decide
  len := fun _ _ => rfl
  one := fun a h u hu => by rw [List.mem_singleton.1 hu]; exact h

@[go_sem] theorem xc_ne (x : Ex) : (xc x = #[]) = False := by simp [xc, Ex.cells]
theorem xc_size (x : Ex) : (xc x).size = 4 := rfl
theorem xc_one {x : Ex} (h : x.v.oneCell' = true) : (xc x).all (·.oneCell') = true := by simpa [xc, Ex.cells, Value.oneCell'] using h
/-- block g holds it -/
def Xv (w : World) (g : Nat) (x : Ex) : Prop := Whole w g 84 (xc x)
section
variable {w w' : World} {g : Nat} {x : Ex}
theorem Xv.lt (h : Xv w g x) : g < w.heap.size := Whole.lt h
theorem Xv.below (h : Xv w g x) (hb : Below w.heap.size w w') : Xv w' g x := (hb.block g (Whole.lt h)).trans h
theorem Xv.new (w : World) (x : Ex) : Xv (w.alloc (.cells (xc x) 84)) w.heap.size x := heap_alloc_new w _
theorem Xv.c0 (h : Xv w g x) : w.cell? ⟨g, 0, none⟩ = some (.int .i64 x.b.a) := Whole.at_ h 0
theorem Xv.c1 (h : Xv w g x) : w.cell? ⟨g, 1, none⟩ = some (.int .i64 x.b.s) := Whole.at_ h 1
theorem Xv.c3 (h : Xv w g x) : w.cell? ⟨g, 3, none⟩ = some x.v := Whole.at_ h 3
theorem Xv.row (h : Xv w g x) : w.rangeAt g 0 x.cells := fun j u hj => by rw [Whole.at_ h, Nat.zero_add, ← hj]; simp [xc]
theorem Xv.block (h : Xv w g x) : (blkLoad (.pointer (some ⟨g, 0, none⟩))).run Try.prog w = .ok (.agg (bc x.b)) w := run_blkLoad fun j u hj => by
  refine h.row j u ?_
  have : j < 3 := (List.getElem?_eq_some_iff.1 hj).1
  rcases j with _ | _ | _ | j
  · exact hj
  · exact hj
  · exact hj
  · omega
end
/-- a whole one loaded, stored -/
def exLoad (p : Value) : Sem Value := Instr.loadAt 84 p
def exStore (p v : Value) : Sem Unit := Instr.storeAt 84 p v
@[go_sem ↓] theorem loadAt_ex (p : Value) : Instr.loadAt 84 p = exLoad p := rfl
@[go_sem ↓] theorem storeAt_ex (p v : Value) : Instr.storeAt 84 p v = exStore p v := rfl
theorem run_exLoad {w : World} {b o : Nat} {c : Ex} (h : w.rangeAt b o c.cells) : (exLoad (.pointer (some ⟨b, o, none⟩))).run Try.prog w = .ok (.agg (xc c)) w :=
  run_loadAt_mid (P := Try.prog) w b o 84 c.cells _ h Try.underlying84 rfl info_ext
theorem Xv.load {w : World} {g : Nat} {x : Ex} (h : Xv w g x) : (exLoad (.pointer (some ⟨g, 0, none⟩))).run Try.prog w = .ok (.agg (xc x)) w := run_exLoad h.row
theorem run_exStore (w : World) {z : Array Value} (hz : z.size = 4) (c : Ex) (h1 : c.v.oneCell' = true) :
    (exStore (.pointer (some ⟨w.heap.size, 0, none⟩)) (.agg (xc c))).run Try.prog (w.alloc (.cells z 84)) = .ok () (w.alloc (.cells (xc c) 84)) := by
  unfold exStore
  simp only [Instr.storeAt, Instr.sureAddr, Sem.run_bind, Sem.run_pure, Result.andThen]
  rw [run_storeVar_row _ _ 84 84 z (xc c) (heap_alloc_new w _) (by rw [info_ext, xc_size]) (by rw [hz, xc_size]) (xc_one h1), World.setRow_alloc_new]
/-- the k-th of a slice: loaded whole -/
theorem ex_at {w : World} {p : Option Addr} {n cap : Nat} {l : List Ex} (h : RA exE w (.slice p n cap) l) (h0 : 0 < l.length) :
    ∃ b off, p = some ⟨b, off, none⟩ ∧ b < w.heap.size ∧ ∀ k, k < l.length → (exLoad (.pointer (some ⟨b, off + k * 4, none⟩))).run Try.prog w = .ok (.agg (xc (l.getD k default))) w ∧ w.cell? ⟨b, off + k * 4, none⟩ = some (.int .i64 (l.getD k default).b.a) ∧ (l.getD k default).Wf := by
  obtain ⟨b, off, e, hb, hr⟩ := ra_at h h0
  refine ⟨b, off, e, hb, fun k hk => ?_⟩
  have hk2 := hr k hk
  exact ⟨run_exLoad hk2, hk2 0 _ rfl, (ra_ok h).at_ hk⟩
theorem ex_boxed (w : World) (c : Ex) (h1 : c.v.oneCell' = true) : ∃ W, w.alloc (.cells (xc c) 84) = W ∧ (exStore (.pointer (some ⟨w.heap.size, 0, none⟩)) (.agg (xc c))).run Try.prog (w.alloc (.cells #[.int .i64 0, .int .i64 0, .bool false, .slice none 0 0] 84)) = .ok () W ∧ Hid (Xv W w.heap.size c ∧ Below w.heap.size w W) :=
  ⟨_, rfl, run_exStore w rfl c h1, Lib.hid ⟨Xv.new w c, bal (Below.refl _ _)⟩⟩
/-- built -/
def exBuild (ps : Array (Nat × Value)) : Sem Value := Instr.build 84 ps
@[go_sem ↓] theorem build_ex (ps : Array (Nat × Value)) : Instr.build 84 ps = exBuild ps := rfl
theorem built_ex (b : Bk) (p : Option Addr) (n c : Nat) : Try.prog.built 84 [(0, .agg (bc b)), (1, .slice p n c)] = some (xc ⟨b, .slice p n c, []⟩) := by kernel_rfl
theorem xc_ws (b : Bk) (v : Value) (l m : List Int) : xc ⟨b, v, l⟩ = xc ⟨b, v, m⟩ := rfl
theorem run_exBuild (w : World) (b : Bk) (p : Option Addr) (n c : Nat) (l : List Int) : (exBuild #[(0, .agg (bc b)), (1, .slice p n c)]).run Try.prog w = .ok (.agg (xc ⟨b, .slice p n c, l⟩)) w := run_build w _ _ _ (built_ex b p n c)
theorem built_exs1 (w : World) (a s : Int) (u : Bool) (p : Option Addr) (n c : Nat) : (Instr.buildSlice 75 1 #[(0, .agg #[.int .i64 a, .int .i64 s, .bool u, .slice p n c])]).run Try.prog w = .ok (.slice (some ⟨w.heap.size, 0, none⟩) 1 1) (w.alloc (.cells #[.int .i64 a, .int .i64 s, .bool u, .slice p n c] 84)) := by
  simp [Instr.buildSlice, run_underlying Try.underlying75, Instr.fill, go_sem]
def exSlice (n : Nat) (ps : Array (Nat × Value)) : Sem Value := Instr.buildSlice 75 n ps
@[go_sem ↓] theorem slice_ex (n : Nat) (ps : Array (Nat × Value)) : Instr.buildSlice 75 n ps = exSlice n ps := rfl
theorem run_exSlice1 (w : World) (x : Ex) {p : Option Addr} {n c : Nat} (hv : x.v = .slice p n c) : (exSlice 1 #[(0, .agg (xc x))]).run Try.prog w = .ok (.slice (some ⟨w.heap.size, 0, none⟩) 1 1) (w.alloc (.cells (xc x) 84)) := by
  have := built_exs1 w x.b.a x.b.s x.b.u p n c
  rw [← hv] at this
  exact this
theorem ex_one (w : World) {x : Ex} (h : x.Wf) : OwnA exE w.heap.size (w.alloc (.cells (xc x) 84)) (.slice (some ⟨w.heap.size, 0, none⟩) 1 1) [x] := by
  have := own_lit_a exE w (l := [x]) (fun y hy => by rw [List.mem_singleton.1 hy]; exact h) (by unfold maxLen; simp)
  simpa [exE, xc] using this
def xrowSlice (n : Nat) (ps : Array (Nat × Value)) : Sem Value := Instr.buildSlice 124 n ps
@[go_sem ↓] theorem slice_xrow (n : Nat) (ps : Array (Nat × Value)) : Instr.buildSlice 124 n ps = xrowSlice n ps := rfl
@[go_sem] theorem run_xrowSlice3 (w : World) (p p' p2 : Option Addr) (n n' n2 c c' c2 : Nat) : (xrowSlice 3 #[(0, .slice p n c), (1, .slice p' n' c'), (2, .slice p2 n2 c2)]).run Try.prog w = .ok (.slice (some ⟨w.heap.size, 0, none⟩) 3 3) (w.alloc (.cells #[.slice p n c, .slice p' n' c', .slice p2 n2 c2] 75)) := by
  unfold xrowSlice Instr.buildSlice
  simp [run_underlying Try.underlying124, Instr.fill, go_sem]
@[go_sem] theorem run_xrowSlice2 (w : World) (p p' : Option Addr) (n n' c c' : Nat) : (xrowSlice 2 #[(0, .slice p n c), (1, .slice p' n' c')]).run Try.prog w = .ok (.slice (some ⟨w.heap.size, 0, none⟩) 2 2) (w.alloc (.cells #[.slice p n c, .slice p' n' c'] 75)) := by
  unfold xrowSlice Instr.buildSlice
  simp [run_underlying Try.underlying124, Instr.fill, go_sem]
theorem ra_one {P : Program} {α : Type} [Inhabited α] {E : Elm P α} {w : World} {u : Value} {l : List α} (h : RA E w u l) : u.oneCell' = true := by
  obtain ⟨_, _, rfl, _⟩ := ra_shape h
  rfl
theorem xrows3 {w : World} {x y z : Value} {l1 l2 l3 : List Ex} (h1 : RA exE w x l1) (h2 : RA exE w y l2) (h3 : RA exE w z l3) : RAs exE xrowE (w.alloc (.cells #[x, y, z] 75)) (.slice (some ⟨w.heap.size, 0, none⟩) 3 3) [l1, l2, l3] := by
  have hb : Below w.heap.size w (w.alloc (.cells #[x, y, z] 75)) := bal (Below.refl _ _)
  have O := own_lit_a xrowE w (l := [x, y, z]) (fun u hu => by
    simp only [List.mem_cons, List.not_mem_nil, or_false] at hu
    rcases hu with rfl | rfl | rfl
    · exact ra_one h1
    · exact ra_one h2
    · exact ra_one h3) (by unfold maxLen; simp)
  refine ⟨[x, y, z], O.ra, rfl, fun k hk => ?_⟩
  have hk : k < 3 := hk
  rcases k with _ | _ | _ | k
  · exact ra_below h1 hb
  · exact ra_below h2 hb
  · exact ra_below h3 hb
  · omega
theorem xrows2 {w : World} {x y : Value} {l1 l2 : List Ex} (h1 : RA exE w x l1) (h2 : RA exE w y l2) : RAs exE xrowE (w.alloc (.cells #[x, y] 75)) (.slice (some ⟨w.heap.size, 0, none⟩) 2 2) [l1, l2] := by
  have hb : Below w.heap.size w (w.alloc (.cells #[x, y] 75)) := bal (Below.refl _ _)
  have O := own_lit_a xrowE w (l := [x, y]) (fun u hu => by
    simp only [List.mem_cons, List.not_mem_nil, or_false] at hu
    rcases hu with rfl | rfl
    · exact ra_one h1
    · exact ra_one h2) (by unfold maxLen; simp)
  refine ⟨[x, y], O.ra, rfl, fun k hk => ?_⟩
  have hk : k < 2 := hk
  rcases k with _ | _ | k
  · exact ra_below h1 hb
  · exact ra_below h2 hb
  · omega

/-- its block is there, and none of those -/
def Far (w : World) (D : List Nat) (v : Value) : Prop := ∀ k, v.ownBlock = some k → k < w.heap.size ∧ k ∉ D
theorem Far.grow {w w' : World} {D : List Nat} {v : Value} (h : Far w D v) (hs : w.heap.size ≤ w'.heap.size) : Far w' D v := fun k hk => ⟨Nat.lt_of_lt_of_le (h k hk).1 hs, (h k hk).2⟩
theorem Far.more {w w' : World} {D : List Nat} {v : Value} (h : Far w D v) (hs : w.heap.size ≤ w'.heap.size) {g : Nat} (hg : w.heap.size ≤ g) : Far w' (g :: D) v := fun k hk => ⟨Nat.lt_of_lt_of_le (h k hk).1 hs, fun q => by
  rcases List.mem_cons.1 q with rfl | q
  · have := (h k hk).1; omega
  · exact (h k hk).2 q⟩
theorem Far.less {w : World} {D D' : List Nat} {v : Value} (h : Far w D v) (hD : ∀ k ∈ D', k ∈ D) : Far w D' v := fun k hk => ⟨(h k hk).1, fun q => (h k hk).2 (hD k q)⟩
theorem far_own {P : Program} {α : Type} [Inhabited α] {E : Elm P α} {B : Nat} {w : World} {D : List Nat} {v : Value} {l : List α} (h : OwnA E B w v l) (hD : ∀ k ∈ D, k < B) : Far w D v := fun k hk => ⟨(h.lt k hk).2, fun q => by
  have := (h.lt k hk).1
  have := hD k q
  omega⟩
theorem far_own_u {B : Nat} {w : World} {D : List Nat} {v : Value} {l : List Int} (h : OwnU B w v l) (hD : ∀ k ∈ D, k < B) : Far w D v := fun k hk => ⟨(World.ownsRow.lt h k hk).2, fun q => by
  have := (World.ownsRow.lt h k hk).1
  have := hD k q
  omega⟩
theorem ru_chg {D : List Nat} {w w' : World} {v : Value} {l : List Int} (h : RU w v l) (hc : Chg D w w') (hD : ∀ g, v.ownBlock = some g → g ∉ D) : RU w' v l := by
  obtain ⟨p, cap, rfl, h1, h2, h | ⟨b, off, rfl, hr⟩⟩ := h
  · exact ⟨p, cap, rfl, h1, h2, .inl h⟩
  · refine ⟨_, cap, rfl, h1, h2, .inr ⟨b, off, rfl, fun i hi => ?_⟩⟩
    have hlt := World.block_lt_of_cell? w _ (hr i hi)
    have e := hc.block b hlt (hD b rfl)
    rw [← hr i hi]
    simp only [World.cell?, e]
/-- the extents that stand for the used blocks -/
structure Us (w : World) (D : List Nat) (wl : List Int) (l : List Bk) (us : List Ex) : Prop where
  map : us.map (·.b) = usd l
  ws : ∀ x ∈ us, x.ws = cut wl x.b ∧ RU w x.v x.ws ∧ Far w D x.v
theorem Us.chg {w w' : World} {D E : List Nat} {wl : List Int} {l : List Bk} {us : List Ex} (h : Us w D wl l us) (hc : Chg E w w') (hE : ∀ k ∈ E, k ∈ D) : Us w' D wl l us :=
  ⟨h.map, fun x hx => by
    obtain ⟨h1, h2, h3⟩ := h.ws x hx
    exact ⟨h1, ru_chg h2 hc (fun g hg q => (h3 g hg).2 (hE g q)), h3.grow hc.size⟩⟩
theorem Us.below {w w' : World} {D : List Nat} {wl : List Int} {l : List Bk} {us : List Ex} (h : Us w D wl l us) (hb : Below w.heap.size w w') : Us w' D wl l us := h.chg (Chg.of_below hb []) (fun _ h => by cases h)
theorem Us.len {w : World} {D : List Nat} {wl : List Int} {l : List Bk} {us : List Ex} (h : Us w D wl l us) : us.length = (usd l).length := by rw [← h.map, List.length_map]
theorem Us.at_ {w : World} {D : List Nat} {wl : List Int} {l : List Bk} {us : List Ex} (h : Us w D wl l us) {k : Nat} (hk : k < us.length) : (us.getD k default).b = (usd l).getD k default ∧ us.getD k default ∈ us := by
  rw [← h.map, List.getD_eq_getElem?_getD, List.getD_eq_getElem?_getD, List.getElem?_map, List.getElem?_eq_getElem hk]
  exact ⟨rfl, List.getElem_mem hk⟩
/-- nil, or a row from its first place on -/
def Pl (v : Value) : Prop := v = .slice none 0 0 ∨ ∃ b n c, v = .slice (some ⟨b, 0, none⟩) n c
theorem pl_own {P : Program} {α : Type} [Inhabited α] {E : Elm P α} {B : Nat} {w : World} {v : Value} {l : List α} (h : OwnA E B w v l) : Pl v := by
  obtain ⟨⟨_, ⟨rfl, _⟩ | ⟨g, cap, cur, rfl, _⟩⟩, _⟩ := h
  · exact .inl rfl
  · exact .inr ⟨_, _, _, rfl⟩
/-- block g holds a model, none of whose rows is one of D -/
structure Mo (w : World) (D : List Nat) (g : Nat) (wl : List Int) (l : List Bk) (r : Int) : Prop where
  hB : blkF wl = some l
  ok : WordsOk wl
  gD : g ∈ D
  dlt : ∀ k ∈ D, k < w.heap.size
  rows : ∃ v us, Whole w g 77 #[.int .i64 (wl.length : Int), v, .int .i64 r] ∧ RA exE w v us ∧ Far w D v ∧ Us w D wl l us ∧ Pl v
/-- block g holds a model of the reference -/
structure Rm (w : World) (D : List Nat) (g : Nat) (wl : List Int) (l : List Bk) (r : Int) : Prop where
  hB : blkF wl = some l
  ok : WordsOk wl
  gD : g ∈ D
  dlt : ∀ k ∈ D, k < w.heap.size
  rows : ∃ v, Whole w g 43 #[v, .int .i64 r] ∧ RU w v wl ∧ Far w D v
section
variable {w w' : World} {D E : List Nat} {g : Nat} {wl : List Int} {l : List Bk} {r : Int}
theorem Mo.len (h : Mo w D g wl l r) : l.length ≤ 256 ∧ wl.length ≤ 512 ∧ mayL wl.length l = true := ⟨(blkF_len h.hB).1, (blkF_len h.hB).2, blkF_some h.hB⟩
theorem Rm.len (h : Rm w D g wl l r) : l.length ≤ 256 ∧ wl.length ≤ 512 ∧ mayL wl.length l = true := ⟨(blkF_len h.hB).1, (blkF_len h.hB).2, blkF_some h.hB⟩
theorem Mo.chg (h : Mo w D g wl l r) (hc : Chg E w w') (hE : ∀ k ∈ E, k ∈ D) (hg : g ∉ E) : Mo w' D g wl l r := by
  obtain ⟨v, us, h1, h2, h3, h4, h5⟩ := h.rows
  exact ⟨h.hB, h.ok, h.gD, fun k hk => Nat.lt_of_lt_of_le (h.dlt k hk) hc.size, v, us, hc.whole h1 hg, ra_chg h2 hc (fun k hk q => (h3 k hk).2 (hE k q)), h3.grow hc.size, h4.chg hc hE, h5⟩
theorem Rm.chg (h : Rm w D g wl l r) (hc : Chg E w w') (hE : ∀ k ∈ E, k ∈ D) (hg : g ∉ E) : Rm w' D g wl l r := by
  obtain ⟨v, h1, h2, h3⟩ := h.rows
  exact ⟨h.hB, h.ok, h.gD, fun k hk => Nat.lt_of_lt_of_le (h.dlt k hk) hc.size, v, hc.whole h1 hg, ru_chg h2 hc (fun k hk q => (h3 k hk).2 (hE k q)), h3.grow hc.size⟩
theorem Mo.below (h : Mo w D g wl l r) (hb : Below w.heap.size w w') : Mo w' D g wl l r := h.chg (Chg.of_below hb []) (fun _ h => by cases h) (fun h => by cases h)
theorem Rm.below (h : Rm w D g wl l r) (hb : Below w.heap.size w w') : Rm w' D g wl l r := h.chg (Chg.of_below hb []) (fun _ h => by cases h) (fun h => by cases h)
/-- one block more that is not to be a row's -/
theorem Mo.more (h : Mo w D g wl l r) (hb : Below w.heap.size w w') {x : Nat} (hx : w.heap.size ≤ x) (hx2 : x < w'.heap.size) : Mo w' (x :: D) g wl l r := by
  have h' := h.below hb
  obtain ⟨v, us, h1, h2, h3, h4, h5⟩ := h.rows
  refine ⟨h.hB, h.ok, List.mem_cons_of_mem _ h.gD, fun k hk => ?_, v, us, hb.block g h1.lt |>.trans h1, ra_below h2 hb, h3.more hb.size hx, ⟨h4.map, fun y hy => ?_⟩, h5⟩
  · rcases List.mem_cons.1 hk with rfl | hk
    · exact hx2
    · exact h'.dlt k hk
  · obtain ⟨g1, g2, g3⟩ := h4.ws y hy
    exact ⟨g1, ru_below g2 hb, g3.more hb.size hx⟩
theorem Rm.more (h : Rm w D g wl l r) (hb : Below w.heap.size w w') {x : Nat} (hx : w.heap.size ≤ x) (hx2 : x < w'.heap.size) : Rm w' (x :: D) g wl l r := by
  have h' := h.below hb
  obtain ⟨v, h1, h2, h3⟩ := h.rows
  refine ⟨h.hB, h.ok, List.mem_cons_of_mem _ h.gD, fun k hk => ?_, v, hb.block g h1.lt |>.trans h1, ru_below h2 hb, h3.more hb.size hx⟩
  rcases List.mem_cons.1 hk with rfl | hk
  · exact hx2
  · exact h'.dlt k hk
/-- its used ones are others now -/
theorem Mo.put {wq : World} {B : Nat} {u : Value} {us' : List Ex} {wl' : List Int} {l' : List Bk} (h : Mo w D g wl l r) (hb : Below w.heap.size w wq) (ho : OwnA exE B wq u us') (hB : w.heap.size ≤ B) (hB' : blkF wl' = some l') (hok : WordsOk wl') (hlen : wl'.length = wl.length) (hmap : us'.map (·.b) = usd l')
    (hws : ∀ x ∈ us', x.ws = cut wl' x.b ∧ RU wq x.v x.ws ∧ Far wq D x.v) : Mo (wq.setCell ⟨g, 1, none⟩ u) D g wl' l' r ∧ Chg [g] w (wq.setCell ⟨g, 1, none⟩ u) := by
  obtain ⟨v, us, h1, _⟩ := h.rows
  have hc : Chg [g] wq (wq.setCell ⟨g, 1, none⟩ u) := (Chg.refl [g] wq).setCell (p := ⟨g, 1, none⟩) (.inl (List.mem_singleton.2 rfl)) u
  have hDB : ∀ k ∈ D, k < B := fun k hk => Nat.lt_of_lt_of_le (h.dlt k hk) hB
  have hgD : ∀ k ∈ [g], k ∈ D := fun k hk => by rw [List.mem_singleton.1 hk]; exact h.gD
  have hF := far_own ho hDB
  have hWq : Whole wq g 77 #[.int .i64 (wl.length : Int), v, .int .i64 r] := (hb.block g h1.lt).trans h1
  refine ⟨⟨hB', hok, h.gD, fun k hk => Nat.lt_of_lt_of_le (h.dlt k hk) (Nat.le_trans hb.size hc.size), u, us', ?_, ra_chg ho.ra hc (fun k hk q => (hF k hk).2 (hgD k q)), hF.grow hc.size, (⟨hmap, hws⟩ : Us wq D wl' l' us').chg hc hgD, pl_own ho⟩, (Chg.of_below hb [g]).trans hc⟩
  rw [hlen]
  exact hWq.set_ 1 u
/-- a slice of it from a place on -/
theorem ra_cut {α : Type} [Inhabited α] {P : Program} {E : Elm P α} {b off n cap k : Nat} {l : List α} (h : RA E w (.slice (some ⟨b, off, none⟩) n cap) l) (hk : k ≤ l.length) : RA E w (.slice (if cap = k then some ⟨b, off, none⟩ else some ⟨b, off + k * E.size, none⟩) (l.length - k) (cap - k)) (l.drop k) := by
  obtain ⟨_, _, e, h1, h2, _⟩ := id h
  cases e
  by_cases hlt : k < l.length
  · rw [if_neg (by omega)]
    exact ra_drop h hlt
  · rw [List.drop_eq_nil_of_le (by omega), show l.length - k = 0 by omega]
    exact ⟨_, _, rfl, Nat.zero_le _, by omega, (fun _ h => by cases h), .inl rfl⟩
end
end Go.Proofs.Ytkpefnjohdjejaa
