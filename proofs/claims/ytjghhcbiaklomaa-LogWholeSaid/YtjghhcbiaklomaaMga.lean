/- texts written together: Law Blk Lin Torn Mix Alk Nvs Chg Nvb Nvc Nvd Nve Nvf Nvg Ri Nvn Nvw Hlc Nvp -/
import Derived.Test.YtjghhcbiaklomaaRows
import Derived.WalkKit
import Derived.WalkLawsBesides
import Derived.ProofKit
import Derived.OpenShut
import Derived.Lib.Hide
import Derived.Deep.Draws
import Derived.Deep.OwnRows
import Derived.Maps.AppendAt
import Derived.Deep.Slices
import Derived.Deep.Fields
import Derived.Handy
import Derived.Deep.WholeRow
import Derived.Laws.StructEq
import Derived.Laws.BitsLemmas
import Derived.Laws.BitsAllLaws
import Derived.Laws.Bits128
import Derived.BigQuiet
import Derived.Lib.Tables
import Derived.Deep.RegionHeld3
import Derived.Deep.MidRow
import Derived.StillTailTactics
import Derived.Laws.ResultCell
import Derived.Deep.DeepCutAuto
import Derived.Deep.RegionLaw
import Derived.OwnWalk

/-
  How a statement of this seat is closed: a call that returns true and leaves all that was there as it was meets the given row, whatever its arguments are. And what a slice of integers that comes in holds.
-/
namespace Go.Proofs.Ytjghhcbiaklomaa
set_option maxRecDepth 100000
open Go.ChangeShapes Go.WideShapes Go.ChangeAt Go.RowKit

theorem own : ownKnob Try.prog.godebug = none := by kernel_rfl
theorem laidOut : laidOutB Try.prog = true := by kernel_rfl

/-- a list of arguments reads behind the call as it did, if nothing that was there has turned -/
theorem trodAll_stays {H : Type} {enc : TypeId × Value → H} {W W' : World} (hb : Below W.heap.size W W') :
    ∀ (ts : List TypeId) (vs : List Value) (ds : List (DataW H)) (p : List MemPlace), (∀ t ∈ ts, Try.prog.readableRec t = true ∧ t < Try.prog.types.size) →
      DataW.TrodAll enc Try.prog W 0 (fun _ => true) true ts vs ds p → (∀ x ∈ p, x.block < W.heap.size) → ∀ sp : Nat → Bool, (∀ x ∈ p, sp x.block = true) → DataW.TrodAll enc Try.prog W' 0 sp true ts vs ds p := by
  intro ts
  induction ts with
  | nil =>
    intro vs ds p _ h _ sp _
    cases vs <;> cases ds <;> first | exact h | exact h.elim
  | cons t ts ih =>
    intro vs ds p hr h hlt sp hsp
    cases vs with
    | nil => exact h.elim
    | cons v vs =>
      cases ds with
      | nil => exact h.elim
      | cons d ds =>
        obtain ⟨p1, q1, h1, h2, rfl⟩ := h
        refine ⟨p1, q1, ?_, ih vs ds q1 (fun t ht => hr t (List.mem_cons_of_mem _ ht)) h2 (fun x hx => hlt x (List.mem_append_right _ hx)) sp (fun x hx => hsp x (List.mem_append_right _ hx)), rfl⟩
        exact WideElems.Trod_stays laidOut (hr t (List.mem_cons_self ..)).1 (hr t (List.mem_cons_self ..)).2 h1 (fun x hx => hb.same (hlt x (List.mem_append_left _ hx))) (fun x hx => hsp x (List.mem_append_left _ hx))

set_option maxRecDepth 100000 in
/-- THE CLOSE OF A LAW: it returned true, and below the heap's old size nothing has turned -/
theorem law_post {H : Type} {enc : TypeId × Value → H} {f : Func} {s : ChangeSpec} {W W' : World} {args : Array Value} {ds : List (DataW H)} {before : List MemPlace}
    (hv : s.vars = []) (hR : f.resultTypes = #[4]) (hW : DataW.Whole enc Try.prog f.params.toList s.vars false W args.toList ds [] before)
    (hread : ∀ t ∈ f.params.toList, Try.prog.readableRec t = true ∧ t < Try.prog.types.size)
    (hs : s.fn H ds = { results := [.lit (.bool true)], args := ds }) (hb : Below W.heap.size W W') :
    s.post enc Try.prog f false true false false W args (.bool true) W' := by
  have hW' := hW
  obtain ⟨p, q, hA, hV, rfl, hfz, hnd⟩ := hW
  rw [hv] at hV
  obtain ⟨_, rfl⟩ := trodVars_none hV
  have hs' : s.fn H (ds ++ []) = { results := [.lit (.bool true)], args := ds } := by rw [List.append_nil]; exact hs
  have hlt : ∀ x ∈ p, x.block < W.heap.size := fun x hx => hW'.lt x (List.mem_append_left _ hx)
  have hargs : ∀ sp : Nat → Bool, (∀ x ∈ p, sp x.block = true) → DataW.TrodAll enc Try.prog W' 0 sp true f.params.toList args.toList (s.fn H (ds ++ [])).args p := by
    intro sp hsp
    rw [hs']
    exact trodAll_stays hb _ _ _ _ hread hA hlt sp hsp
  have hres : ∀ (b : Nat) (sp : Nat → Bool) (hd : Bool), DataW.TrodAll enc Try.prog W' b sp hd f.resultTypes.toList ((Value.bool true).resultList f.resultTypes.size) (s.fn H (ds ++ [])).results [] := by
    intro b sp hd
    rw [hR, hs']
    exact trodAll_cons_mk (shut_bool Try.underlying4 _) trodAll_mk0
  have hvars : ∀ sp : Nat → Bool, DataW.TrodVars enc Try.prog W' sp s.vars (s.fn H (ds ++ [])).vars [] := by
    intro sp
    rw [hs', hv]; rfl
  refine ⟨ds, [], p ++ [], [], p, [], hW', hres _ _ _, hargs _ (fun x hx => by simpa using hlt x hx), hvars _, World.keptBut_mono (fun p hp => ⟨hp, Or.inr (by simpa using hp)⟩) (hb.frame _), fun _ => ?_⟩
  refine ⟨ok_one hR rfl (okWide_bool_mk Try.underlying4 _), _, _, ([] ++ p) ++ [], ⟨[] ++ p, [], trodAll_append (hargs _ (fun _ _ => rfl)) (hres _ _ _), hvars _, rfl, ?_, fun h => by cases h⟩, ?_⟩
  · intro b off hp
    have hp' : MemPlace.cell b off ∈ p := by simpa using hp
    have e : W'.frozen? ⟨b, off, none⟩ = W.frozen? ⟨b, off, none⟩ := hb.frozen (p := ⟨b, off, none⟩) (hlt _ hp')
    rw [e]
    exact hfz b off (by simpa using hp')
  · intro x hx _
    simpa using hx

theorem nat_of_u64 {a : Int} (h : (Lit.int .u64 a).wf = true) : ∃ n : Nat, a = n ∧ n < 2 ^ 64 := by
  have hx : 0 ≤ a ∧ a ≤ 18446744073709551615 := by simpa [Lit.wf, IntKind.min, IntKind.max, IntKind.signed, IntKind.bits] using h
  exact ⟨a.toNat, by omega, by omega⟩

theorem u64_nat (a : Int) : ∃ u : Nat, IntKind.u64.wrap a = (u : Int) ∧ u < 2 ^ 64 := by
  refine ⟨(a % 18446744073709551616).toNat, ?_, by omega⟩
  have h : IntKind.u64.wrap a = a % 18446744073709551616 := by simp [IntKind.wrap, IntKind.signed, IntKind.bits]
  rw [h]; omega
theorem tmod_nat (u n : Nat) : (u : Int).tmod ((n : Nat) : Int) = ((u % n : Nat) : Int) := by rw [Int.natCast_emod]; exact Int.tmod_eq_emod_of_nonneg (by omega)

theorem i64_of {a : Int} (h1 : -9223372036854775808 ≤ a) (h2 : a ≤ 9223372036854775807) : (Lit.int .i64 a).wf = true := by simp [Lit.wf, IntKind.min, IntKind.max, IntKind.signed, IntKind.bits, h1, h2]
theorem i64_wf {a : Int} (h : (Lit.int .i64 a).wf = true) : -9223372036854775808 ≤ a ∧ a ≤ 9223372036854775807 := by simpa [Lit.wf, IntKind.min, IntKind.max, IntKind.signed, IntKind.bits] using h
theorem u64_in {a : Int} (h : (Lit.int .u64 a).wf = true) : 0 ≤ a ∧ a ≤ 18446744073709551615 := by simpa [Lit.wf, IntKind.min, IntKind.max, IntKind.signed, IntKind.bits] using h
theorem tdiv_nat (a b : Nat) : (a : Int).tdiv (b : Int) = ((a / b : Nat) : Int) := rfl
theorem i64_nat (n : Nat) (h : n < 9223372036854775808) : IntKind.i64.wrap (n : Int) = n := IntWalk.i64_in _ (by omega)

/-- a slice of integers of kind k that came in: it reads as l -/
def IntsIn (k : IntKind) (w : World) (v : Value) (l : List Int) : Prop :=
  ∃ p cap, v = .slice p l.length cap ∧ l.length ≤ cap ∧ cap ≤ maxLen ∧ (∀ n ∈ l, (Lit.int k n).wf = true) ∧
    ((l = [] ∧ (p = none → cap = 0)) ∨ ∃ b off, p = some ⟨b, off, none⟩ ∧ b < w.heap.size ∧ ∀ i, i < l.length → w.cell? ⟨b, off + i, none⟩ = some (.int k (l.getD i 0)))

set_option maxRecDepth 100000 in
theorem ints_in {H : Type} {enc : TypeId × Value → H} {W : World} {t e : TypeId} {k : IntKind} {v : Value} {d : DataW H} {p : List MemPlace} (ht : Try.prog.underlying t = some (.slice e)) (he : Try.prog.underlying e = some (.int k))
    (hc : Try.prog.cellsOf e = 1) (hval : Value.okWide Try.prog W .any W.heap.size t v) (hlt : ∀ x ∈ p, x.block < W.heap.size) (h : DataW.Trod enc Try.prog W 0 (fun _ => true) true t v d p) : ∃ l : List Int, IntsIn k W v l := by
  obtain ⟨va, vl, vc, rfl⟩ := okWide_slice ht hval
  obtain ⟨fuel, hf⟩ := h
  rcases open_ints ht he hc hf with ⟨hcs, hx⟩ | ⟨a, len, cap, zs, hcs, _, hl, hm, hz, hx, hcell, hwz⟩
  · simp [Value.cells] at hcs
    obtain ⟨rfl, rfl, rfl⟩ := hcs
    exact ⟨[], none, 0, rfl, Nat.zero_le _, Nat.zero_le _, by simp, .inl ⟨rfl, fun _ => rfl⟩⟩
  · simp [Value.cells] at hcs
    obtain ⟨rfl, rfl, rfl⟩ := hcs
    have hz' : zs.length = vc := by simpa using hz
    have hlen : (zs.take vl).length = vl := by rw [List.length_take]; omega
    refine ⟨zs.take vl, some a, vc, by rw [hlen], by rw [hlen]; exact hl, hm, fun n hn => hwz n (List.mem_of_mem_take hn), ?_⟩
    by_cases h0 : vl = 0
    · exact .inl ⟨by rw [h0]; rfl, fun h => by cases h⟩
    · obtain ⟨b, off, rfl, hc'⟩ := Go.ints_at hcell (by omega)
      refine .inr ⟨b, off, rfl, ?_, fun i hi => ?_⟩
      · have hx2 : p = MemPlace.row ⟨b, off, none⟩ zs.length := (Prod.mk.inj hx).2
        have : MemPlace.cell b off ∈ p := by
          rw [hx2]
          exact List.mem_map.2 ⟨0, List.mem_range.2 (by omega), rfl⟩
        exact hlt _ this
      · rw [hlen] at hi
        rw [hc' i (by omega), List.getD_eq_getElem?_getD, List.getD_eq_getElem?_getD, List.getElem?_take, if_pos hi]
end Go.Proofs.Ytjghhcbiaklomaa

/-
  Blocks that are known whole; what stays below the heap's old size.
-/
namespace Go.Proofs.Ytjghhcbiaklomaa
set_option maxRecDepth 100000
open Go.ChangeShapes Go.WideShapes Go.ChangeAt Go.RowKit

/-- a word's cell -/
def uv (x : Int) : Value := .int .u64 x
theorem cells_u64 : Try.prog.cellsOf 37 = 1 := by kernel_rfl

/-- a block that is known whole -/
def Whole (w : World) (g : Nat) (t : TypeId) (cs : Array Value) : Prop := w.heap[g]? = some (.cells cs t (0, 0))
theorem Whole.lt {w : World} {g : Nat} {t : TypeId} {cs : Array Value} (h : Whole w g t cs) : g < w.heap.size := (Array.getElem?_eq_some_iff.1 h).1
theorem Whole.at_ {w : World} {g : Nat} {t : TypeId} {cs : Array Value} (h : Whole w g t cs) (i : Nat) : w.cell? ⟨g, i, none⟩ = cs[i]? := cell_of_row w g i cs t (0, 0) h
theorem Whole.free {w : World} {g : Nat} {t : TypeId} {cs : Array Value} (h : Whole w g t cs) (i : Nat) : w.frozen? ⟨g, i, none⟩ = false := by
  have e : w.heap[g]? = some (.cells cs t (0, 0)) := h
  simp [World.frozen?, e]
theorem Whole.set_ {w : World} {g : Nat} {t : TypeId} {cs : Array Value} (h : Whole w g t cs) (i : Nat) (u : Value) : Whole (w.setCell ⟨g, i, none⟩ u) g t (cs.setIfInBounds i u) := by
  have e : w.heap[g]? = some (.cells cs t (0, 0)) := h
  unfold Whole
  simp [World.setCell, Array.getElem?_modify, e]
theorem Whole.grown {w w' : World} {g : Nat} {t : TypeId} {cs : Array Value} (h : Whole w g t cs) {row : Option Nat} (hg : w.grownBy w' row) (hne : some g ≠ row) : Whole w' g t cs := (hg.block g h.lt hne).trans h
theorem Whole.other {w : World} {g : Nat} {t : TypeId} {cs : Array Value} (h : Whole w g t cs) {p : Addr} (hp : g ≠ p.block) (u : Value) : Whole (w.setCell p u) g t cs := (Below.heap_setCell w p u g hp).trans h
theorem Whole.alloc {w : World} {g : Nat} {t : TypeId} {cs : Array Value} (h : Whole w g t cs) (o : Obj) : Whole (w.alloc o) g t cs := (Below.heap_alloc w o g h.lt).trans h

theorem below_drewN {B : Nat} {w w1 : World} (h : Below B w w1) (n : Nat) : Below B w (w1.drewN n) := h.trans ⟨rfl, rfl, rfl, Nat.le_refl _, fun _ _ => rfl⟩
theorem below_more {w w1 w2 : World} (h : Below w.heap.size w w1) (h2 : Below w1.heap.size w1 w2) : Below w.heap.size w w2 := h.trans (h2.mono h.size)
theorem below_base {B : Nat} {w w1 w2 : World} (h : Below B w w1) (hB : B ≤ w1.heap.size) (h2 : Below w1.heap.size w1 w2) : Below B w w2 := h.trans (h2.mono hB)
theorem bal {w w1 : World} {o : Obj} (h : Below w.heap.size w w1) : Below w.heap.size w (w1.alloc o) := h.alloc h.size o
theorem cell_kept {w : World} {p : Addr} {u : Value} (h : w.cell? p = some u) (o : Obj) : (w.alloc o).cell? p = some u := (World.cell?_alloc_lt w o p (World.block_lt_of_cell? w _ h)).trans h
theorem size_alloc (w : World) (o : Obj) : (w.alloc o).heap.size = w.heap.size + 1 := by simp
theorem ret_i64 {a b : Int} (h : a = b) : Ending.returned (.int .i64 a) = .returned (.int .i64 b) := by rw [h]
theorem ret_bool {a b : Bool} (h : a = b) : Ending.returned (.bool a) = .returned (.bool b) := by rw [h]
end Go.Proofs.Ytjghhcbiaklomaa

/-
  Lines, by value and in variables: what came in, whole loads and stores, words at a place, whether two are the same.
-/
namespace Go.Proofs.Ytjghhcbiaklomaa
set_option maxRecDepth 100000
open Go.ChangeShapes Go.WideShapes Go.ChangeAt Go.RowKit

/-- a word's cell; a line's cells -/
def lc (l : List Int) : Array Value := (l.map uv).toArray
def wfu (l : List Int) : Prop := ∀ n ∈ l, (Lit.int .u64 n).wf = true

@[go_sem] theorem lc_size (l : List Int) : (lc l).size = l.length := by simp [lc]
theorem lc_at (l : List Int) (i : Nat) (h : i < l.length) : (lc l)[i]? = some (.int .u64 (l.getD i 0)) := by simp [lc, uv, h]
@[go_sem] theorem lc_set (l : List Int) (i : Nat) (x : Int) : (lc l).setIfInBounds i (.int .u64 x) = lc (l.set i x) := by
  simp [lc, List.map_set, uv]
@[go_sem] theorem lc_nil (l : List Int) : (lc l = #[]) = (l = []) := by simp [lc]
theorem lc_one (l : List Int) : (lc l).all (·.oneCell') = true := by
  simp [lc, uv, Value.oneCell']
theorem lc_inj {a b : List Int} (h : lc a = lc b) : a = b := by
  have h1 : a.map uv = b.map uv := by simpa [lc] using h
  exact List.map_inj_right (fun x y e => by cases e; rfl) |>.1 h1
theorem cells_line : Try.prog.cellsOf 39 = 8 := by kernel_rfl

/-- a line that came in -/
theorem line_in {H : Type} {enc : TypeId × Value → H} {W : World} {base : Nat} {v : Value} {d : DataW H} {p : List MemPlace}
    (hval : Value.okWide Try.prog W .any base 39 v) (h : DataW.Trod enc Try.prog W 0 (fun _ => true) true 39 v d p) : ∃ l : List Int, v = .agg (lc l) ∧ l.length = 8 ∧ wfu l := by
  obtain ⟨cs, rfl, hsz, _⟩ : ∃ cs, v = .agg cs ∧ cs.size = Try.prog.cellsOf 39 ∧ Row.okWide Try.prog W .any base 39 cs := by
    simpa [Value.okWide, Try.underlying39] using hval
  rw [cells_line] at hsz
  obtain ⟨fuel, hf⟩ := h
  obtain ⟨xs, m, _, _, _, hl, hi⟩ := Go.DataW.trod_array Try.underlying39 hf
  rw [cells_u64] at hi
  have pick : ∀ i, ∃ x : Int, i < 8 → cs[i]? = some (.int .u64 x) ∧ (Lit.int .u64 x).wf = true := by
    intro i
    by_cases h8 : i < 8
    · have hx := hi i h8
      rw [List.getElem?_eq_getElem (by omega : i < xs.length)] at hx
      obtain ⟨x, hc, _, hw⟩ := DataW.trod_int Try.underlying37 hx
      refine ⟨x, fun _ => ⟨?_, hw⟩⟩
      have := congrArg (·[0]?) hc
      simpa [Value.cells, List.getElem?_take, List.getElem?_drop] using this
    · exact ⟨0, fun h => absurd h h8⟩
  obtain ⟨f, hfp⟩ := Classical.axiomOfChoice pick
  refine ⟨(List.range 8).map f, ?_, by simp, ?_⟩
  · congr 1
    apply Array.ext_getElem?
    intro i
    by_cases h8 : i < 8
    · rw [(hfp i h8).1]; simp [lc, uv, h8]
    · rw [Array.getElem?_eq_none (by omega), Array.getElem?_eq_none (by simp [lc]; omega)]
  · intro n hn
    obtain ⟨i, hi', rfl⟩ := List.mem_map.1 hn
    exact (hfp i (by simpa using hi')).2

/-- a variable that holds a line -/
def Ln (w : World) (g : Nat) (l : List Int) : Prop := Whole w g 39 (lc l) ∧ l.length = 8

theorem Ln.lt {w : World} {g : Nat} {l : List Int} (h : Ln w g l) : g < w.heap.size := h.1.lt
theorem Ln.alloc {w : World} {g : Nat} {l : List Int} (h : Ln w g l) (o : Obj) : Ln (w.alloc o) g l := ⟨h.1.alloc o, h.2⟩
theorem Ln.below {w w' : World} {g : Nat} {l : List Int} (h : Ln w g l) (hb : Below w.heap.size w w') : Ln w' g l := ⟨(hb.block g h.lt).trans h.1, h.2⟩
theorem Ln.drewN {w : World} {g : Nat} {l : List Int} (h : Ln w g l) (n : Nat) : Ln (w.drewN n) g l := h
theorem Ln.other {w : World} {g g' i : Nat} {l : List Int} (h : Ln w g l) (hne : g ≠ g') (u : Value) : Ln (w.setCell ⟨g', i, none⟩ u) g l := ⟨h.1.other hne u, h.2⟩
theorem Ln.set_ {w : World} {g : Nat} {l : List Int} (h : Ln w g l) (i : Nat) (x : Int) : Ln (w.setCell ⟨g, i, none⟩ (.int .u64 x)) g (l.set i x) := by
  refine ⟨?_, by simpa using h.2⟩
  have := h.1.set_ i (.int .u64 x)
  rw [lc_set] at this; exact this
theorem Ln.new (w : World) {l : List Int} (h : l.length = 8) : Ln (w.alloc (.cells (lc l) 39)) w.heap.size l := ⟨heap_alloc_last w _, h⟩
theorem Ln.cell {w : World} {g : Nat} {l : List Int} (h : Ln w g l) {i : Nat} (hi : i < 8) : w.cell? ⟨g, i, none⟩ = some (.int .u64 (l.getD i 0)) ∧ w.frozen? ⟨g, i, none⟩ = false := by
  refine ⟨?_, h.1.free i⟩
  rw [h.1.at_, lc_at _ _ (by rw [h.2]; exact hi)]
theorem Ln.wide {w : World} {g : Nat} {l : List Int} (h : Ln w g l) : (lc l).size = 8 := (lc_size l).trans h.2
theorem info_line : (Try.prog.info? 39).map (·.size) = some 8 := by kernel_rfl

/-- a line loaded whole, stored whole: taken ahead of the walk's own unfolding -/
def lineLoad (p : Value) : Sem Value := Instr.loadAt 39 p
def lineStore (p v : Value) : Sem Unit := Instr.storeAt 39 p v
@[go_sem ↓] theorem loadAt_line (p : Value) : Instr.loadAt 39 p = lineLoad p := rfl
@[go_sem ↓] theorem storeAt_line (p v : Value) : Instr.storeAt 39 p v = lineStore p v := rfl
@[go_sem] theorem fold8 (a b c d e f g h : Int) : #[Value.int .u64 a, .int .u64 b, .int .u64 c, .int .u64 d, .int .u64 e, .int .u64 f, .int .u64 g, .int .u64 h] = lc [a, b, c, d, e, f, g, h] := rfl

theorem Ln.loadVar {w : World} {g : Nat} {l : List Int} (h : Ln w g l) : (loadVar 39 ⟨g, 0, none⟩).run Try.prog w = .ok (.agg (lc l)) w :=
  run_loadVar_row w g 39 39 (lc l) (0, 0) _ h.1 Try.underlying39 rfl (by rw [info_line, h.wide])
theorem Ln.load {w : World} {g : Nat} {l : List Int} (h : Ln w g l) : (lineLoad (.pointer (some ⟨g, 0, none⟩))).run Try.prog w = .ok (.agg (lc l)) w := by
  simp only [lineLoad, Instr.loadAt, Instr.sureAddr, Sem.run_bind, Sem.run_pure, Result.andThen]
  exact h.loadVar
theorem Ln.store {w : World} {g : Nat} {l x : List Int} (h : Ln w g l) (hx : x.length = 8) : (lineStore (.pointer (some ⟨g, 0, none⟩)) (.agg (lc x))).run Try.prog w = .ok () (w.setRow g (lc x)) := by
  simp only [lineStore, Instr.storeAt, Instr.sureAddr, Sem.run_bind, Sem.run_pure, Result.andThen]
  exact run_storeVar_row w g 39 39 (lc l) (lc x) h.1 (by rw [info_line, lc_size, hx]) (by rw [h.wide, lc_size, hx]) (lc_one x)
theorem Ln.put {w : World} {g : Nat} {l x : List Int} (h : Ln w g l) (hx : x.length = 8) : Ln (w.setRow g (lc x)) g x := by
  have e : w.heap[g]? = some (.cells (lc l) 39 (0, 0)) := h.1
  refine ⟨?_, hx⟩
  unfold Whole
  simp [World.setRow, Array.getElem?_modify, e]
theorem Ln.past {w : World} {g g' : Nat} {l : List Int} {c : Array Value} (h : Ln w g l) (hne : g ≠ g') : Ln (w.setRow g' c) g l := by
  have e : w.heap[g]? = some (.cells (lc l) 39 (0, 0)) := h.1
  refine ⟨?_, h.2⟩
  unfold Whole
  rw [← e]
  simp only [World.setRow, Array.getElem?_modify]
  rw [if_neg (fun e => hne e.symm)]
theorem below_row {B : Nat} {w w1 : World} {g : Nat} {c : Array Value} (h : Below B w w1) (hg : B ≤ g) : Below B w (w1.setRow g c) := by
  refine h.trans ⟨rfl, rfl, rfl, by simp [World.setRow], fun k hk => ?_⟩
  simp only [World.setRow, Array.getElem?_modify]
  rw [if_neg (by omega)]

@[go_sem] theorem load_new (w : World) (l : List Int) (h : l.length = 8) : (lineLoad (.pointer (some ⟨w.heap.size, 0, none⟩))).run Try.prog (w.alloc (.cells (lc l) 39)) = .ok (.agg (lc l)) (w.alloc (.cells (lc l) 39)) := (Ln.new w h).load
@[go_sem] theorem store_new (w : World) (z l : List Int) (hz : z.length = 8) (h : l.length = 8) : (lineStore (.pointer (some ⟨w.heap.size, 0, none⟩)) (.agg (lc l))).run Try.prog (w.alloc (.cells (lc z) 39)) = .ok () (w.alloc (.cells (lc l) 39)) := by
  rw [(Ln.new w hz).store h, World.setRow_alloc_new]

@[go_sem] theorem store_new1 (w : World) (z l : List Int) (o : Obj) (hz : z.length = 8) (h : l.length = 8) : (lineStore (.pointer (some ⟨w.heap.size, 0, none⟩)) (.agg (lc l))).run Try.prog ((w.alloc (.cells (lc z) 39)).alloc o) = .ok () ((w.alloc (.cells (lc l) 39)).alloc o) := by
  rw [((Ln.new w hz).alloc o).store h]
  congr 1
  simp only [World.setRow, World.alloc]
  congr 1
  apply Array.ext_getElem?
  intro i
  rw [Array.getElem?_modify]
  by_cases h1 : w.heap.size = i
  · subst h1
    simp [Array.getElem?_push]
  · have h2 : ¬ i = w.heap.size := fun e => h1 e.symm
    simp [h1, h2, Array.getElem?_push]
@[go_sem] theorem store_new2 (w : World) (z l : List Int) (o : Obj) (hz : z.length = 8) (h : l.length = 8) : (lineStore (.pointer (some ⟨w.heap.size + 1, 0, none⟩)) (.agg (lc l))).run Try.prog ((w.alloc o).alloc (.cells (lc z) 39)) = .ok () ((w.alloc o).alloc (.cells (lc l) 39)) := by
  have := store_new (w.alloc o) z l hz h
  rwa [size_alloc] at this

theorem all_same : ∀ (xs ys : List Int), xs.length = ys.length → ((List.range xs.length).all fun i => xs.getD i 0 == ys.getD i 0) = (xs == ys)
  | [], [], _ => rfl
  | x :: xs, y :: ys, h => by
    have ih := all_same xs ys (by simpa using h)
    rw [List.length_cons, List.range_succ_eq_map, List.all_cons, List.all_map]
    simp only [List.getD_cons_zero, Function.comp_def, List.getD_cons_succ, ih]
    simp [List.cons_beq_cons]
  | [], _ :: _, h => by simp at h
  | _ :: _, [], h => by simp at h

theorem size_u64 (w : World) : (sizeOf 37).run Try.prog w = .ok 1 w := by kernel_rfl

/-- whether two lines are the same -/
@[go_sem] theorem run_same (w : World) (a b : List Int) (ha : a.length = 8) (hb : b.length = 8) : (Op.equalIn 10000 39 (.agg (lc a)) (.agg (lc b))).run Try.prog w = .ok (a == b) w := by
  rw [← all_same a b (ha.trans hb.symm), ha, List.range_eq_range', Op.equalIn]
  simp only [Sem.run_bind, run_underlying Try.underlying39, Result.andThen_ok, size_u64, Std.Legacy.Range.forIn_eq_forIn_range', Std.Legacy.Range.size, Nat.sub_zero, Nat.add_sub_cancel, Nat.div_one]
  have hl : ∀ i ∈ List.range' 0 8 1, i < 8 := fun i hi => by simpa using (List.mem_range'_1.1 hi).2
  generalize List.range' 0 8 1 = l at hl ⊢
  induction l with
  | nil => simp
  | cons i l ih =>
    have hi : i < 8 := hl i (by simp)
    have pp : ∀ c : List Int, c.length = 8 → (part 37 (lc c) (i * 1)).run Try.prog w = .ok (.int .u64 (c.getD i 0)) w := fun c hc => by
      have := lc_at c i (by omega)
      simp [part, isAgg, run_underlying Try.underlying37, List.getD] at this ⊢
      rw [this]; rfl
    have pe : (Op.equalIn 9999 37 (.int .u64 (a.getD i 0)) (.int .u64 (b.getD i 0))).run Try.prog w = .ok (a.getD i 0 == b.getD i 0) w := run_equalIn_int w 9998 _ .u64 .u64 _ _ Try.underlying37
    simp only [List.forIn_cons, Sem.run_bind, pp a ha, pp b hb, pe, Result.andThen_ok, List.all_cons]
    cases hb : (a.getD i 0 == b.getD i 0)
    · simp
    · simp only [Bool.not_true, Bool.false_eq_true, if_false, Sem.run_pure, Result.andThen_ok, Bool.true_and]
      exact ih fun j hj => hl j (by simp [hj])
end Go.Proofs.Ytjghhcbiaklomaa

/-
  Torn lines, plainly: mixes by a mask, where two are alike, how many masks make one.
-/
namespace Go.Proofs.Ytjghhcbiaklomaa
set_option maxRecDepth 100000
open Go.RowKit

theorem and_low (n c : Int) (j : Nat) (hj : j < 63) (hc : (BitVec.ofInt 64 c).toNat = 2 ^ j - 1) : bits .and .i64 n c = n % 2 ^ j := by
  have key : (BitVec.ofInt 64 n &&& BitVec.ofInt 64 c).toNat = (n % ((2 ^ 64 : Nat) : Int)).toNat % 2 ^ j := by
    rw [BitVec.toNat_and, BitVec.toNat_ofInt, hc, Nat.and_two_pow_sub_one_eq_mod]
  have hp : (2 : Int) ^ 64 = 2 ^ j * 2 ^ (64 - j) := by rw [← Int.pow_add]; congr 1; omega
  have hpos : (0 : Int) < 2 ^ j := Int.pow_pos (by omega)
  have hle : (2 : Int) ^ j ≤ 4611686018427387904 := by
    have : 2 ^ j ≤ 2 ^ 62 := Nat.pow_le_pow_right (by omega) (by omega)
    have h2 : ((2 ^ j : Nat) : Int) ≤ ((2 ^ 62 : Nat) : Int) := Int.ofNat_le.2 this
    simpa using h2
  show IntKind.i64.wrap ((BitVec.ofInt 64 n &&& BitVec.ofInt 64 c).toNat : Nat) = n % 2 ^ j
  rw [key]
  have e : (((n % ((2 ^ 64 : Nat) : Int)).toNat % 2 ^ j : Nat) : Int) = n % 2 ^ j := by
    rw [Int.natCast_emod, Int.toNat_of_nonneg (Int.emod_nonneg _ (by decide))]
    have : ((2 ^ 64 : Nat) : Int) = (2 : Int) ^ 64 := by simp
    rw [this, hp]
    have d : ((2 ^ j : Nat) : Int) = (2 : Int) ^ j := by simp
    rw [d]
    exact Int.emod_emod_of_dvd _ ⟨_, rfl⟩
  rw [e, IntKind.wrap_i64]
  have h1 := Int.emod_nonneg n (by omega : (2 : Int) ^ j ≠ 0)
  have h2 := Int.emod_lt_of_pos n hpos
  omega
@[go_sem] theorem and_one (n : Int) : bits .and .i64 n 1 = n % 2 := and_low n 1 1 (by omega) (by decide)
@[go_sem] theorem and_255 (n : Int) : bits .and .i64 n 255 = n % 256 := and_low n 255 8 (by omega) (by decide)

/-- a mix: the now's words at the mask's bits -/
def mix : List Int → List Int → Int → List Int
  | o :: os, n :: ns, m => (if m % 2 = 1 then n else o) :: mix os ns (m / 2)
  | _, _, _ => []
theorem mix_length : ∀ (a b : List Int) (m : Int), a.length = b.length → (mix a b m).length = a.length
  | [], [], _, _ => rfl
  | o :: os, n :: ns, m, h => by simp only [mix, List.length_cons]; rw [mix_length os ns (m / 2) (by simpa using h)]
  | [], _ :: _, _, h => by simp at h
  | _ :: _, [], _, h => by simp at h
theorem mix_at : ∀ (a b : List Int) (m : Int) (i : Nat), a.length = b.length → i < a.length → (mix a b m).getD i 0 = if m / 2 ^ i % 2 = 1 then b.getD i 0 else a.getD i 0
  | [], [], _, _, _, h => by simp at h
  | o :: os, n :: ns, m, 0, _, _ => by simp [mix]
  | o :: os, n :: ns, m, i + 1, h, hi => by
    simp only [mix, List.getD_cons_succ]
    rw [mix_at os ns (m / 2) i (by simpa using h) (by simpa using hi), Int.ediv_ediv_of_nonneg (by omega), Int.pow_succ, Int.mul_comm]
  | [], _ :: _, _, _, h, _ => by simp at h
  | _ :: _, [], _, _, h, _ => by simp at h
theorem list_ext {a b : List Int} (h : a.length = b.length) (hi : ∀ i, i < a.length → a.getD i 0 = b.getD i 0) : a = b := by
  apply List.ext_getElem h
  intro i h1 h2
  simpa [h1, h2] using hi i h1

/-- the first k words of x, the others of a -/
def upTo (x a : List Int) (k : Nat) : List Int := x.take k ++ a.drop k
theorem upTo_zero (x a : List Int) : upTo x a 0 = a := by simp [upTo]
theorem upTo_all {x a : List Int} {k : Nat} (hx : x.length = k) (ha : a.length = k) : upTo x a k = x := by
  rw [upTo, List.take_of_length_le (by omega), List.drop_eq_nil_of_le (by omega), List.append_nil]
theorem upTo_length {x a : List Int} {k : Nat} (h : x.length = a.length) : (upTo x a k).length = a.length := by
  simp [upTo]; omega
theorem upTo_at {x a : List Int} {k i : Nat} (h : x.length = a.length) : (upTo x a k).getD i 0 = if i < k then x.getD i 0 else a.getD i 0 := by
  simp only [upTo, List.getD_eq_getElem?_getD, List.getElem?_append, List.getElem?_take, List.getElem?_drop, List.length_take]
  by_cases hi : i < k
  · by_cases hx : i < x.length
    · rw [if_pos (show i < min k x.length by omega)]; simp [hi]
    · rw [if_neg (show ¬ i < min k x.length by omega), List.getElem?_eq_none (by omega), List.getElem?_eq_none (show x.length ≤ i by omega)]; simp [hi]
  · rw [if_neg (show ¬ i < min k x.length by omega), if_neg hi]
    by_cases hx : k ≤ x.length
    · congr 2; omega
    · rw [List.getElem?_eq_none (by omega), List.getElem?_eq_none (show a.length ≤ i by omega)]
theorem getD_set (l : List Int) (k i : Nat) (x : Int) : (l.set k x).getD i 0 = if i = k ∧ k < l.length then x else l.getD i 0 := by
  simp only [List.getD_eq_getElem?_getD, List.getElem?_set]
  by_cases h : k = i
  · subst h
    by_cases h2 : k < l.length
    · simp [h2]
    · simp [h2]
  · rw [if_neg h, if_neg (by omega)]
theorem upTo_set {x a : List Int} {k : Nat} (h : x.length = a.length) (hk : k < a.length) : (upTo x a k).set k (x.getD k 0) = upTo x a (k + 1) := by
  apply list_ext
  · rw [List.length_set, upTo_length h, upTo_length h]
  · intro i _
    rw [getD_set, upTo_at h, upTo_at h, upTo_length h]
    by_cases hi : i = k
    · subst hi; rw [if_pos ⟨rfl, hk⟩, if_pos (by omega)]
    · rw [if_neg (by omega)]
      by_cases h2 : i < k
      · rw [if_pos h2, if_pos (by omega)]
      · rw [if_neg h2, if_neg (by omega)]
theorem upTo_keep {x a : List Int} {k : Nat} (h : x.length = a.length) (hk : x.getD k 0 = a.getD k 0) : upTo x a (k + 1) = upTo x a k := by
  apply list_ext
  · rw [upTo_length h, upTo_length h]
  · intro i _
    rw [upTo_at h, upTo_at h]
    by_cases hi : i = k
    · subst hi; rw [if_pos (by omega), if_neg (by omega), hk]
    · by_cases h2 : i < k
      · rw [if_pos h2, if_pos (by omega)]
      · rw [if_neg h2, if_neg (by omega)]

/-- where two are alike: a bit a word; how many words -/
def al : List Int → List Int → Nat
  | x :: xs, y :: ys => (if x = y then 1 else 0) + 2 * al xs ys
  | _, _ => 0
def same : List Int → List Int → Nat
  | x :: xs, y :: ys => (if x = y then 1 else 0) + same xs ys
  | _, _ => 0
theorem al_take : ∀ (a b : List Int) (k : Nat), a.length = b.length → k < a.length → al (a.take (k + 1)) (b.take (k + 1)) = al (a.take k) (b.take k) + (if a.getD k 0 = b.getD k 0 then 2 ^ k else 0)
  | [], _, _, _, h => by simp at h
  | _ :: _, [], _, h, _ => by simp at h
  | x :: xs, y :: ys, 0, _, _ => by simp [al]
  | x :: xs, y :: ys, k + 1, h, hk => by
    have := al_take xs ys k (by simpa using h) (by simpa using hk)
    simp only [List.take_succ_cons, al, List.getD_cons_succ] at this ⊢
    rw [this, Nat.pow_succ]
    by_cases h2 : xs.getD k 0 = ys.getD k 0
    · rw [if_pos h2, if_pos h2]; omega
    · rw [if_neg h2, if_neg h2]; omega
theorem al_lt : ∀ (a b : List Int), al a b < 2 ^ a.length
  | [], _ => by simp [al]
  | _ :: _, [] => Nat.pow_pos (by omega)
  | x :: xs, y :: ys => by
    have := al_lt xs ys
    simp only [al, List.length_cons, Nat.pow_succ]
    split <;> omega

theorem same_le : ∀ (a b : List Int), same a b ≤ a.length
  | [], _ => by simp [same]
  | _ :: _, [] => by simp [same]
  | x :: xs, y :: ys => by
    have := same_le xs ys
    simp only [same, List.length_cons]
    split <;> omega

/-- is c a mix of a and b? by how many masks? -/
def could : List Int → List Int → List Int → Bool
  | o :: os, n :: ns, c :: cs => (o == c || n == c) && could os ns cs
  | _, _, _ => true
def cnt : List Int → List Int → List Int → Nat
  | o :: os, n :: ns, c :: cs => ((if o = c then 1 else 0) + (if n = c then 1 else 0)) * cnt os ns cs
  | _, _, _ => 1
theorem cnt_is : ∀ (a b c : List Int), a.length = b.length → b.length = c.length → cnt a b c = if could a b c then 2 ^ same a b else 0
  | [], [], [], _, _ => by simp [cnt, could, same]
  | o :: os, n :: ns, c :: cs, h, h' => by
    have key : ∀ (B : Bool) (S : Nat), ((if o = c then 1 else 0) + (if n = c then 1 else 0)) * (if B = true then 2 ^ S else 0) = if ((o == c || n == c) && B) = true then 2 ^ ((if o = n then 1 else 0) + S) else 0 := by
      intro B S
      by_cases h1 : o = c
      · subst h1
        by_cases h2 : n = o
        · subst h2
          cases B <;> simp [Nat.pow_add]
        · have h3 : ¬ o = n := fun e => h2 e.symm
          cases B <;> simp [h2, h3]
      · by_cases h2 : n = c
        · subst h2
          cases B <;> simp [h1]
        · cases B <;> simp [h1, h2]
    have ih := cnt_is os ns cs (by simpa using h) (by simpa using h')
    show _ * cnt os ns cs = _
    rw [ih]
    exact key _ _
  | [], _ :: _, _, h, _ => by simp at h
  | _ :: _, [], _, h, _ => by simp at h
  | [], [], _ :: _, _, h => by simp at h
  | _ :: _, _ :: _, [], _, h => by simp at h

/-- how many masks below M make c -/
def cntTo (a b c : List Int) : Nat → Nat
  | 0 => 0
  | M + 1 => cntTo a b c M + (if mix a b M = c then 1 else 0)
theorem cntTo_two (o n x : Int) (a b c : List Int) (M : Nat) : cntTo (o :: a) (n :: b) (x :: c) (2 * M) = ((if o = x then 1 else 0) + (if n = x then 1 else 0)) * cntTo a b c M := by
  induction M with
  | zero => simp [cntTo]
  | succ M ih =>
    rw [show 2 * (M + 1) = 2 * M + 1 + 1 by omega]
    simp only [cntTo]
    rw [ih]
    have e0 : (((2 * M : Nat) : Int)) % 2 = 0 := by omega
    have e1 : (((2 * M + 1 : Nat) : Int)) % 2 = 1 := by omega
    have d0 : (((2 * M : Nat) : Int)) / 2 = M := by omega
    have d1 : (((2 * M + 1 : Nat) : Int)) / 2 = M := by omega
    simp only [mix, e0, e1, d0, d1, List.cons.injEq, if_true]
    rw [if_neg (by decide : ¬ (0 : Int) = 1)]
    generalize cntTo a b c M = z
    by_cases h1 : o = x <;> by_cases h2 : n = x <;> by_cases h3 : mix a b M = c <;> simp [h1, h2, h3] <;> omega
theorem cntTo_all : ∀ (a b c : List Int), a.length = b.length → b.length = c.length → cntTo a b c (2 ^ a.length) = cnt a b c
  | [], [], [], _, _ => by simp [cnt, cntTo, mix]
  | o :: os, n :: ns, c :: cs, h, h' => by
    rw [List.length_cons, Nat.pow_succ, Nat.mul_comm, cntTo_two, cntTo_all os ns cs (by simpa using h) (by simpa using h')]; rfl
  | [], _ :: _, _, h, _ => by simp at h
  | _ :: _, [], _, h, _ => by simp at h
  | [], [], _ :: _, _, h => by simp at h
  | _ :: _, _ :: _, [], _, h => by simp at h
theorem could_mix : ∀ (a b : List Int) (m : Int), a.length = b.length → could a b (mix a b m) = true
  | [], [], _, _ => rfl
  | o :: os, n :: ns, m, h => by
    simp only [mix, could]
    rw [could_mix os ns (m / 2) (by simpa using h)]
    by_cases h1 : m % 2 = 1 <;> simp [h1]
  | [], _ :: _, _, h => by simp at h
  | _ :: _, [], _, h => by simp at h
end Go.Proofs.Ytjghhcbiaklomaa

/-
  Contracts of package torn's Mix, and of the reference's.
-/
namespace Go.Proofs.Ytjghhcbiaklomaa
set_option maxRecDepth 100000
open Go.RowKit

def zeros : List Int := [0, 0, 0, 0, 0, 0, 0, 0]

theorem mix_any (a b : List Int) (m : Int) (w : World) (ha : a.length = 8) (hb : b.length = 8) :
    Calls Try.prog 76 #[.agg (lc a), .agg (lc b), .int .i64 m] w fun e w' => e = .returned (.agg (lc (mix a b m))) ∧ Below w.heap.size w w' := by
  have hl := mix_length a b m (ha.trans hb.symm)
  have AT := Lib.hid (mix_at a b m)
  have L0 := Lib.hid (Ln.new w ha)
  have L1 := Lib.hid (Ln.new (w.alloc (.cells (lc a) 39)) hb)
  have L2 := Lib.hid (Ln.new ((w.alloc (.cells (lc a) 39)).alloc (.cells (lc b) 39)) (l := zeros) rfl)
  have HB := Lib.hid (bal (o := .cells (lc zeros) 39) (bal (o := .cells (lc b) 39) (bal (o := .cells (lc a) 39) (Below.refl w.heap.size w))))
  generalize mix a b m = x at *
  go_enter Try.func76, Try.ntmps76
  go_wp2
  go_loopw [8] (fun i wr => ∃ k : Nat, k ≤ 8 ∧ i = .int .i64 k ∧ Hid (Ln wr w.heap.size (upTo x a k) ∧ Ln wr (w.heap.size + 1) b ∧ Ln wr (w.heap.size + 1 + 1) zeros ∧ Below w.heap.size w wr)) (fun i _ => 8 - (intOf i).toNat)
  case atStart =>
    refine ⟨0, by omega, rfl, Lib.hid ⟨?_, ?_, ?_, HB.out⟩⟩
    · rw [upTo_zero]; exact (L0.out.alloc _).alloc _
    · have := L1.out; rw [size_alloc] at this; exact this.alloc _
    · have := L2.out; rw [size_alloc, size_alloc] at this; exact this
  case round =>
    obtain ⟨k, hk, rfl, H⟩ := hrel
    by_cases hlt : k < 8
    · obtain ⟨c0, f0⟩ := H.out.1.cell hlt
      obtain ⟨c1, _⟩ := H.out.2.1.cell hlt
      have E := Lib.hid (AT.out k (ha.trans hb.symm) (by omega))
      generalize (upTo x a k).getD k 0 = q at c0
      generalize hy : b.getD k 0 = y at *
      go_wp2
      · rename_i ht
        refine ⟨⟨k + 1, by omega, by go_num, Lib.hid ⟨?_, ?_, ?_, ?_⟩⟩, by simp [intOf]; omega⟩
        · rw [← upTo_set hl (by omega)]
          have := H.out.1.set_ k y
          rw [E.out, if_pos (by simpa using ht)]; exact this
        · exact H.out.2.1.other (by omega) _
        · exact H.out.2.2.1.other (by omega) _
        · exact H.out.2.2.2.setCell (Nat.le_refl _) _
      · rename_i ht
        refine ⟨⟨k + 1, by omega, by go_num, Lib.hid ⟨?_, H.out.2⟩⟩, by simp [intOf]; omega⟩
        rw [upTo_keep hl (by rw [E.out, if_neg (by simpa using ht)])]; exact H.out.1
    · obtain rfl : k = 8 := by omega
      have hx : x.length = 8 := by omega
      have hX := H.out.1
      rw [upTo_all hx ha] at hX
      have hld := hX.load
      have hst := H.out.2.2.1.store hx
      have HP := Lib.hid (H.out.2.2.1.put hx)
      have HB2 := Lib.hid (below_row (c := lc x) H.out.2.2.2 (show w.heap.size ≤ w.heap.size + 1 + 1 by omega))
      clear hX
      go_wp2
      exact bodyPost_ret (v := .agg (lc x)) (results_cell_row rfl _ _ _ _ _ _ _ rfl HP.out.1 Try.underlying39 rfl (by rw [info_line, lc_size, hx])) rfl ⟨rfl, HB2.out⟩
end Go.Proofs.Ytjghhcbiaklomaa

/-
  Contracts of package torn's alike and Could; lines laid in new variables.
-/
namespace Go.Proofs.Ytjghhcbiaklomaa
set_option maxRecDepth 100000
open Go.RowKit

theorem or_bit (s k : Nat) (hk : k < 8) (hs : s < 2 ^ k) : bits .or .u8 (s : Int) ((2 : Int) ^ k % 256) = ((s + 2 ^ k : Nat) : Int) := by
  have h8 : 2 ^ k ≤ 2 ^ 7 := Nat.pow_le_pow_right (by omega) (by omega)
  have e : ((2 : Int) ^ k) = ((2 ^ k : Nat) : Int) := by simp
  rw [e, Int.emod_eq_of_lt (by omega) (by omega), u8_or_nat _ _ (by omega) (by omega), Nat.or_comm, nat_join k _ _ (by simp) hs, Nat.add_comm]


/-- three lines laid in new variables -/
theorem boxed3 (w : World) {a b c : List Int} (ha : a.length = 8) (hb : b.length = 8) (hc : c.length = 8) :
    ∃ W, ((w.alloc (.cells (lc a) 39)).alloc (.cells (lc b) 39)).alloc (.cells (lc c) 39) = W ∧ Hid (Ln W w.heap.size a ∧ Ln W (w.heap.size + 1) b ∧ Ln W (w.heap.size + 1 + 1) c ∧ Below w.heap.size w W) := by
  have L1 := Ln.new (w.alloc (.cells (lc a) 39)) hb
  have L2 := Ln.new ((w.alloc (.cells (lc a) 39)).alloc (.cells (lc b) 39)) hc
  rw [size_alloc] at L1 L2
  rw [size_alloc] at L2
  exact ⟨_, rfl, Lib.hid ⟨((Ln.new w ha).alloc _).alloc _, L1.alloc _, L2, bal (bal (bal (Below.refl w.heap.size w)))⟩⟩
theorem boxed2 (w : World) {a b : List Int} (ha : a.length = 8) (hb : b.length = 8) :
    ∃ W, (w.alloc (.cells (lc a) 39)).alloc (.cells (lc b) 39) = W ∧ Hid (Ln W w.heap.size a ∧ Ln W (w.heap.size + 1) b ∧ Below w.heap.size w W) := by
  have L1 := Ln.new (w.alloc (.cells (lc a) 39)) hb
  rw [size_alloc] at L1
  exact ⟨_, rfl, Lib.hid ⟨(Ln.new w ha).alloc _, L1, bal (bal (Below.refl w.heap.size w))⟩⟩
theorem boxed1 (w : World) {a : List Int} (ha : a.length = 8) : ∃ W, w.alloc (.cells (lc a) 39) = W ∧ Hid (Ln W w.heap.size a ∧ Below w.heap.size w W) :=
  ⟨_, rfl, Lib.hid ⟨Ln.new w ha, bal (Below.refl w.heap.size w)⟩⟩
theorem mix_is {a b x : List Int} {m : Int} (h : mix a b m = x) (w : World) (ha : a.length = 8) (hb : b.length = 8) :
    Calls Try.prog 76 #[.agg (lc a), .agg (lc b), .int .i64 m] w fun e w' => e = .returned (.agg (lc x)) ∧ Below w.heap.size w w' := by rw [← h]; exact mix_any a b m w ha hb
/-- a line's variable, read in every later world -/
theorem Ln.later {w : World} {g : Nat} {l : List Int} (h : Ln w g l) : ∀ w' : World, Below w.heap.size w w' → (lineLoad (.pointer (some ⟨g, 0, none⟩))).run Try.prog w' = .ok (.agg (lc l)) w' := fun _ hb => (h.below hb).load

theorem or_all : ∀ (a b c : List Int), a.length = b.length → b.length = c.length → (al a c ||| al b c = 2 ^ a.length - 1 ↔ could a b c = true)
  | [], [], [], _, _ => by simp [al, could]
  | o :: os, n :: ns, c :: cs, h, h' => by
    have ih := or_all os ns cs (by simpa using h) (by simpa using h')
    have hd : (al (o :: os) (c :: cs) ||| al (n :: ns) (c :: cs)) / 2 = al os cs ||| al ns cs := by
      rw [Nat.or_div_two]
      simp only [al]
      congr 1 <;> split <;> omega
    have hm : (al (o :: os) (c :: cs) ||| al (n :: ns) (c :: cs)) % 2 = 1 ↔ (o = c ∨ n = c) := by
      rw [Nat.or_mod_two_eq_one]
      simp only [al]
      by_cases h1 : o = c <;> by_cases h2 : n = c <;> simp [h1, h2]
    have hp : 1 ≤ 2 ^ os.length := Nat.pow_pos (by omega)
    have e : could (o :: os) (n :: ns) (c :: cs) = true ↔ (o = c ∨ n = c) ∧ could os ns cs = true := by simp [could]
    rw [e, ← ih, ← hm, List.length_cons, Nat.pow_succ]
    generalize (al (o :: os) (c :: cs) ||| al (n :: ns) (c :: cs)) = z at *
    rw [← hd]
    omega
  | [], _ :: _, _, h, _ => by simp at h
  | _ :: _, [], _, h, _ => by simp at h
  | [], [], _ :: _, _, h => by simp at h
  | _ :: _, _ :: _, [], _, h => by simp at h
theorem or_could (a b c : List Int) (ha : a.length = 8) (hb : b.length = 8) (hc : c.length = 8) : (bits .or .u8 ((al a c : Nat) : Int) ((al b c : Nat) : Int) == 255) = could a b c := by
  have h1 := al_lt a c
  have h2 := al_lt b c
  rw [ha] at h1; rw [hb] at h2
  rw [u8_or_nat _ _ (by omega) (by omega), Bool.eq_iff_iff, ← or_all a b c (by omega) (by omega), ha]
  simp only [beq_iff_eq]
  omega


end Go.Proofs.Ytjghhcbiaklomaa

/-
  The memory, plainly: what it holds, and what each call makes of it.
-/
namespace Go.Proofs.Ytjghhcbiaklomaa
set_option maxRecDepth 100000
open Go.RowKit

def upd {α : Type} (f : Nat → α) (i : Nat) (x : α) : Nat → α := fun j => if j = i then x else f j
theorem upd_same {α : Type} (f : Nat → α) (i : Nat) (x : α) : upd f i x i = x := if_pos rfl
theorem upd_other {α : Type} (f : Nat → α) {i j : Nat} (x : α) (h : j ≠ i) : upd f i x j = f j := if_neg h

/-- a memory: lines, how often each was written and lasts; registers; writes; is the power gone; when it goes -/
structure Nv where
  n : Nat
  h : Nat → List Int
  wr : Nat → Int
  la : Nat → Int
  rg : Nat → Int
  c : Int
  dark : Bool
  comes : Bool
  ahead : Int
  mask : Int

/-- what is always so -/
structure Nv.Ok (s : Nv) : Prop where
  lo : 1 ≤ s.n
  hi : s.n ≤ 200
  line : ∀ i, (s.h i).length = 8
  wr0 : ∀ i, 0 ≤ s.wr i
  wr1 : ∀ i, s.wr i ≤ s.c
  ah : s.ahead ≤ 9223372036854775807

def Nv.has (s : Nv) (i : Int) : Bool := decide (0 ≤ i) && decide (i < (s.n : Int))
def hasR (i : Int) : Bool := decide (0 ≤ i) && decide (i < 35)
/-- why what is there, or isn't, cannot be reached -/
def Nv.rdy (s : Nv) (b : Bool) : Int := if b then (if s.dark then 2 else 0) else 1
/-- does the power go at the next write -/
def Nv.goes (s : Nv) : Bool := s.comes && decide (s.ahead ≤ 0)
def Nv.by_ (s : Nv) : Int := if s.goes then s.mask else 255
def Nv.told (s : Nv) : Int := if s.goes then 2 else 0
/-- a write is counted -/
def Nv.tick (s : Nv) : Nv := { s with c := s.c + 1, dark := s.dark || s.goes, ahead := if s.comes && decide (0 < s.ahead) then s.ahead - 1 else s.ahead }
def Nv.worn (s : Nv) (i : Nat) : Bool := decide (0 ≤ s.la i) && decide (s.la i ≤ s.wr i)
def Nv.lay (s : Nv) (i : Nat) (l : List Int) (m : Int) : Nv := { s with wr := upd s.wr i (s.wr i + 1), h := upd s.h i (mix (s.h i) l m) }
def Nv.reg (s : Nv) (i : Nat) (v : Int) : Nv := { s with rg := upd s.rg i v }

def Nv.putE (s : Nv) (i : Int) : Int := if s.rdy (s.has i) = 0 then (if s.worn i.toNat && !s.goes then 3 else s.told) else s.rdy (s.has i)
def Nv.put (s : Nv) (i : Int) (l : List Int) : Nv := if s.rdy (s.has i) = 0 then (if s.worn i.toNat then s.tick else s.tick.lay i.toNat l s.by_) else s
def Nv.setE (s : Nv) (i : Int) : Int := if s.rdy (hasR i) = 0 then s.told else s.rdy (hasR i)
def Nv.set (s : Nv) (i : Int) (v : Int) : Nv := if s.rdy (hasR i) = 0 then (if s.by_ % 2 = 1 then s.tick.reg i.toNat v else s.tick) else s
def Nv.get (s : Nv) (i : Int) : List Int := if s.rdy (s.has i) = 0 then s.h i.toNat else zeros
def Nv.rd (s : Nv) (i : Int) : Int := if s.rdy (hasR i) = 0 then s.rg i.toNat else 0
def Nv.wear (s : Nv) (i : Int) : Int := if s.has i then s.wr i.toNat else 0
def Nv.cutAt (s : Nv) (n m : Int) : Nv := { s with comes := decide (0 ≤ n), ahead := n, mask := m }
def Nv.power (s : Nv) : Nv := { s with dark := false, comes := false, ahead := 0, mask := 0 }
/-- a new one -/
def newNv (n : Nat) (lim : List Int) : Nv :=
  { n := n, h := fun _ => zeros, wr := fun _ => 0, la := fun i => if i < n then (if i < lim.length then lim.getD i 0 else -1) else 0, rg := fun _ => 0, c := 0, dark := false, comes := false, ahead := 0, mask := 0 }

theorem Nv.Ok.tick {s : Nv} (h : s.Ok) : s.tick.Ok := by
  refine ⟨h.lo, h.hi, h.line, h.wr0, fun i => ?_, ?_⟩
  · have := h.wr1 i; show s.wr i ≤ s.c + 1; omega
  · have := h.ah
    have e : s.tick.ahead = s.ahead ∨ s.tick.ahead = s.ahead - 1 := by
      simp only [Nv.tick]; split
      · exact .inr rfl
      · exact .inl rfl
    rcases e with e | e <;> rw [e]
    · exact this
    · have : s.ahead - 1 ≤ s.ahead := Int.sub_le_self _ (by decide)
      exact Int.le_trans this h.ah
theorem Nv.Ok.put {s : Nv} (h : s.Ok) {l : List Int} (hl : l.length = 8) (i : Int) : (s.put i l).Ok := by
  unfold Nv.put
  split
  · split
    · exact h.tick
    · have ht := h.tick
      refine ⟨ht.lo, ht.hi, fun j => ?_, fun j => ?_, fun j => ?_, ht.ah⟩
      · show (upd s.h i.toNat (mix (s.h i.toNat) l s.by_) j).length = 8
        unfold upd
        split
        · rw [mix_length _ _ _ ((h.line _).trans hl.symm)]; exact h.line _
        · exact h.line j
      · have := h.wr0 j; have := h.wr0 i.toNat
        show 0 ≤ upd s.wr _ (s.wr i.toNat + 1) j
        unfold upd; split <;> omega
      · have := h.wr1 j; have := h.wr1 i.toNat
        show upd s.wr _ (s.wr i.toNat + 1) j ≤ s.c + 1
        unfold upd; split <;> omega
  · exact h
theorem Nv.Ok.set {s : Nv} (h : s.Ok) (i v : Int) : (s.set i v).Ok := by
  unfold Nv.set
  split
  · split
    · have ht := h.tick
      exact ⟨ht.lo, ht.hi, ht.line, ht.wr0, ht.wr1, ht.ah⟩
    · exact h.tick
  · exact h
theorem Nv.Ok.cutAt {s : Nv} (h : s.Ok) {n : Int} (hn : n ≤ 9223372036854775807) (m : Int) : (s.cutAt n m).Ok := ⟨h.lo, h.hi, h.line, h.wr0, h.wr1, hn⟩
theorem Nv.Ok.power {s : Nv} (h : s.Ok) : s.power.Ok := ⟨h.lo, h.hi, h.line, h.wr0, h.wr1, by simp [Nv.power]⟩
theorem newNv_ok {n : Nat} (h1 : 1 ≤ n) (h2 : n ≤ 200) (lim : List Int) : (newNv n lim).Ok := ⟨h1, h2, fun _ => rfl, fun _ => Int.le_refl 0, fun _ => Int.le_refl 0, by simp [newNv]⟩

/-- what lies in each cell of it -/
def Nv.val (s : Nv) (k : Nat) : Value :=
  if k < 2000 then
    if k % 10 < 8 then .int .u64 ((s.h (k / 10)).getD (k % 10) 0) else if k % 10 = 8 then .int .i64 (s.wr (k / 10)) else .int .i64 (s.la (k / 10))
  else if k = 2000 then .int .i64 s.n
  else if k < 2036 then .int .u64 (s.rg (k - 2001))
  else if k = 2036 then .int .i64 s.c
  else if k = 2037 then .bool s.dark
  else if k = 2038 then .bool s.comes
  else if k = 2039 then .int .i64 s.ahead
  else .int .i64 s.mask
def Nv.cells (s : Nv) : Array Value := ((List.range 2041).map s.val).toArray
theorem Nv.cells_size (s : Nv) : s.cells.size = 2041 := by rw [Nv.cells, List.size_toArray, List.length_map, List.length_range]
theorem Nv.cells_at (s : Nv) (k : Nat) : s.cells[k]? = if k < 2041 then some (s.val k) else none := by
  rw [Nv.cells, List.getElem?_toArray, List.getElem?_map]
  by_cases hk : k < 2041
  · rw [List.getElem?_range hk, if_pos hk]; rfl
  · rw [List.getElem?_eq_none (by rw [List.length_range]; omega), if_neg hk]; rfl

theorem Nv.val_h (s : Nv) {i j : Nat} (hi : i < 200) (hj : j < 8) : s.val (i * 10 + j) = .int .u64 ((s.h i).getD j 0) := by
  have e1 : (i * 10 + j) / 10 = i := by omega
  have e2 : (i * 10 + j) % 10 = j := by omega
  rw [Nv.val, if_pos (by omega), e1, e2, if_pos hj]
theorem Nv.val_wr (s : Nv) {i : Nat} (hi : i < 200) : s.val (i * 10 + 8) = .int .i64 (s.wr i) := by
  have e1 : (i * 10 + 8) / 10 = i := by omega
  have e2 : (i * 10 + 8) % 10 = 8 := by omega
  rw [Nv.val, if_pos (by omega), e1, e2, if_neg (by omega), if_pos rfl]
theorem Nv.val_la (s : Nv) {i : Nat} (hi : i < 200) : s.val (i * 10 + 9) = .int .i64 (s.la i) := by
  have e1 : (i * 10 + 9) / 10 = i := by omega
  have e2 : (i * 10 + 9) % 10 = 9 := by omega
  rw [Nv.val, if_pos (by omega), e1, e2, if_neg (by omega), if_neg (by omega)]
theorem Nv.val_rg (s : Nv) {i : Nat} (hi : i < 35) : s.val (2001 + i) = .int .u64 (s.rg i) := by
  have e : 2001 + i - 2001 = i := by omega
  rw [Nv.val, if_neg (by omega), if_neg (by omega), if_pos (by omega), e]
theorem Nv.val_n (s : Nv) : s.val 2000 = .int .i64 s.n := rfl
theorem Nv.val_c (s : Nv) : s.val 2036 = .int .i64 s.c := rfl
theorem Nv.val_dark (s : Nv) : s.val 2037 = .bool s.dark := rfl
theorem Nv.val_comes (s : Nv) : s.val 2038 = .bool s.comes := rfl
theorem Nv.val_ahead (s : Nv) : s.val 2039 = .int .i64 s.ahead := rfl
theorem Nv.val_mask (s : Nv) : s.val 2040 = .int .i64 s.mask := rfl
end Go.Proofs.Ytjghhcbiaklomaa

/-
  What a call changes of the blocks that were there; many cells stored into a block that is known whole.
-/
namespace Go.Proofs.Ytjghhcbiaklomaa
set_option maxRecDepth 100000
open Go.ChangeShapes Go.WideShapes Go.ChangeAt Go.RowKit

/-- of the blocks that were there none has turned but those of D -/
structure Chg (D : List Nat) (w w' : World) : Prop where
  os : w'.os = w.os
  tape : w'.tape = w.tape
  output : w'.output = w.output
  size : w.heap.size ≤ w'.heap.size
  block : ∀ k, k < w.heap.size → k ∉ D → w'.heap[k]? = w.heap[k]?
theorem Chg.refl (D : List Nat) (w : World) : Chg D w w := ⟨rfl, rfl, rfl, Nat.le_refl _, fun _ _ _ => rfl⟩
theorem Chg.trans {D : List Nat} {w w1 w2 : World} (h : Chg D w w1) (h2 : Chg D w1 w2) : Chg D w w2 :=
  ⟨h2.os.trans h.os, h2.tape.trans h.tape, h2.output.trans h.output, Nat.le_trans h.size h2.size, fun k hk hD => (h2.block k (Nat.lt_of_lt_of_le hk h.size) hD).trans (h.block k hk hD)⟩
theorem Chg.mono {D D' : List Nat} {w w1 : World} (h : Chg D w w1) (hD : ∀ k ∈ D, k ∈ D') : Chg D' w w1 := ⟨h.os, h.tape, h.output, h.size, fun k hk hn => h.block k hk fun hx => hn (hD k hx)⟩
theorem Chg.drewN {D : List Nat} {w w1 : World} (h : Chg D w w1) (n : Nat) : Chg D w (w1.drewN n) := ⟨h.os, h.tape, h.output, h.size, h.block⟩
theorem Chg.drew {D : List Nat} {w w1 : World} (h : Chg D w w1) : Chg D w w1.drew := ⟨h.os, h.tape, h.output, h.size, h.block⟩
theorem Chg.from_drew {D : List Nat} {w w1 : World} (h : Chg D w.drew w1) : Chg D w w1 := ⟨h.os, h.tape, h.output, h.size, h.block⟩
theorem Chg.from_drewN {D : List Nat} {w w1 : World} {n : Nat} (h : Chg D (w.drewN n) w1) : Chg D w w1 := ⟨h.os, h.tape, h.output, h.size, h.block⟩
theorem Chg.alloc {D : List Nat} {w w1 : World} (h : Chg D w w1) (o : Obj) : Chg D w (w1.alloc o) :=
  ⟨h.os, h.tape, h.output, Nat.le_trans h.size (by simp), fun k hk hn => (Below.heap_alloc w1 o k (Nat.lt_of_lt_of_le hk h.size)).trans (h.block k hk hn)⟩
theorem Chg.setCell {D : List Nat} {w w1 : World} (h : Chg D w w1) {p : Addr} (hp : p.block ∈ D ∨ w.heap.size ≤ p.block) (u : Value) : Chg D w (w1.setCell p u) :=
  ⟨h.os, h.tape, h.output, by simpa [World.setCell] using h.size, fun k hk hn => (Below.heap_setCell w1 p u k (by rcases hp with hp | hp; exact fun e => hn (e ▸ hp); omega)).trans (h.block k hk hn)⟩
theorem Chg.setCells {D : List Nat} {w : World} {b : Nat} (hp : b ∈ D ∨ w.heap.size ≤ b) : ∀ (vs : List Value) (o : Nat) (w1 : World), Chg D w w1 → Chg D w (w1.setCells b o vs)
  | [], _, _, h => h
  | v :: r, o, w1, h => by
    rw [World.setCells]
    exact Chg.setCells hp r (o + 1) _ (h.setCell (p := ⟨b, o, none⟩) hp v)
theorem Chg.setRow {D : List Nat} {w w1 : World} (h : Chg D w w1) {g : Nat} (hp : g ∈ D ∨ w.heap.size ≤ g) (c : Array Value) : Chg D w (w1.setRow g c) := by
  refine ⟨h.os, h.tape, h.output, by simpa using h.size, fun k hk hn => ?_⟩
  rw [setRow_other w1 g k c (by rcases hp with hp | hp; exact fun e => hn (e ▸ hp); omega)]
  exact h.block k hk hn
theorem Chg.of_below {w w1 : World} (h : Below w.heap.size w w1) (D : List Nat) : Chg D w w1 := ⟨h.os, h.tape, h.output, h.size, fun k hk _ => h.block k hk⟩
theorem Chg.below {D : List Nat} {B : Nat} {w0 w w1 : World} (h : Chg D w w1) (h0 : Below B w0 w) (hB : B ≤ w.heap.size) (hD : ∀ k ∈ D, B ≤ k) : Below B w0 w1 :=
  h0.trans ⟨h.os, h.tape, h.output, h.size, fun k hk => h.block k (Nat.lt_of_lt_of_le hk hB) fun hx => by have := hD k hx; omega⟩
theorem Chg.whole {D : List Nat} {w w1 : World} (h : Chg D w w1) {g : Nat} {t : TypeId} {cs : Array Value} (hw : Whole w g t cs) (hg : g ∉ D) : Whole w1 g t cs := (h.block g hw.lt hg).trans hw

/-- many cells stored into a block that is known whole -/
theorem Whole.setCells {g : Nat} {t : TypeId} : ∀ (vs : List Value) (o : Nat) (w : World) (cs : Array Value), Whole w g t cs →
    ∃ cs', Whole (w.setCells g o vs) g t cs' ∧ cs'.size = cs.size ∧ ∀ j, cs'[j]? = if o ≤ j ∧ j < o + vs.length ∧ j < cs.size then vs[j - o]? else cs[j]?
  | [], o, w, cs, h => ⟨cs, h, rfl, fun j => by rw [if_neg (by simp; omega)]⟩
  | v :: r, o, w, cs, h => by
    obtain ⟨cs', h1, h2, h3⟩ := Whole.setCells r (o + 1) _ _ (h.set_ o v)
    refine ⟨cs', by rw [World.setCells]; exact h1, h2.trans (by simp), fun j => ?_⟩
    rw [h3 j]
    simp only [Array.size_setIfInBounds, List.length_cons]
    by_cases hj : o = j
    · subst hj
      rw [if_neg (by omega)]
      by_cases hs : o < cs.size
      · rw [if_pos (by omega)]; simp [hs]
      · rw [if_neg (by omega), Array.getElem?_setIfInBounds]; simp [hs]
    · have e : (cs.setIfInBounds o v)[j]? = cs[j]? := by rw [Array.getElem?_setIfInBounds, if_neg hj]
      rw [e]
      by_cases hin : o + 1 ≤ j ∧ j < o + 1 + r.length ∧ j < cs.size
      · rw [if_pos hin, if_pos (by omega)]
        have : j - o = (j - (o + 1)) + 1 := by omega
        rw [this, List.getElem?_cons_succ]
      · rw [if_neg hin, if_neg (by omega)]
end Go.Proofs.Ytjghhcbiaklomaa

/-
  A memory that lies in a block; what a call on it changes.
-/
namespace Go.Proofs.Ytjghhcbiaklomaa
set_option maxRecDepth 100000
open Go.ChangeShapes Go.WideShapes Go.ChangeAt Go.RowKit

theorem Chg.ln {D : List Nat} {w w1 : World} (h : Chg D w w1) {g : Nat} {l : List Int} (hl : Ln w g l) (hg : g ∉ D) : Ln w1 g l := ⟨h.whole hl.1 hg, hl.2⟩

/-- block g holds the memory s -/
def Nm (w : World) (g : Nat) (s : Nv) : Prop := Whole w g 73 s.cells
theorem Nm.lt {w : World} {g : Nat} {s : Nv} (h : Nm w g s) : g < w.heap.size := Whole.lt h
theorem Nm.alloc {w : World} {g : Nat} {s : Nv} (h : Nm w g s) (o : Obj) : Nm (w.alloc o) g s := Whole.alloc h o
theorem Nm.drewN {w : World} {g : Nat} {s : Nv} (h : Nm w g s) (n : Nat) : Nm (w.drewN n) g s := h
theorem Nm.drew {w : World} {g : Nat} {s : Nv} (h : Nm w g s) : Nm w.drew g s := h
theorem Nm.below {w w' : World} {g : Nat} {s : Nv} (h : Nm w g s) (hb : Below w.heap.size w w') : Nm w' g s := (hb.block g h.lt).trans h
theorem Nm.chg {D : List Nat} {w w' : World} {g : Nat} {s : Nv} (h : Nm w g s) (hc : Chg D w w') (hg : g ∉ D) : Nm w' g s := hc.whole h hg
theorem Nm.other {w : World} {g g' i : Nat} {s : Nv} (h : Nm w g s) (hne : g ≠ g') (u : Value) : Nm (w.setCell ⟨g', i, none⟩ u) g s := Whole.other h hne u
theorem Nm.past {w : World} {g g' : Nat} {s : Nv} (h : Nm w g s) (hne : g ≠ g') (c : Array Value) : Nm (w.setRow g' c) g s := by
  unfold Nm Whole
  rw [setRow_other w g' g c hne]; exact h
theorem Nm.free {w : World} {g : Nat} {s : Nv} (h : Nm w g s) (k : Nat) : w.frozen? ⟨g, k, none⟩ = false := Whole.free h k
theorem Nm.at_ {w : World} {g : Nat} {s : Nv} (h : Nm w g s) {k : Nat} (hk : k < 2041) : w.cell? ⟨g, k, none⟩ = some (s.val k) := by
  rw [Whole.at_ h, s.cells_at, if_pos hk]
theorem Nm.set1 {w : World} {g : Nat} {s s' : Nv} (h : Nm w g s) (k : Nat) (v : Value) (hk : k < 2041) (he : ∀ j, j < 2041 → s'.val j = if j = k then v else s.val j) : Nm (w.setCell ⟨g, k, none⟩ v) g s' := by
  have := Whole.set_ h k v
  have e : s.cells.setIfInBounds k v = s'.cells := by
    apply Array.ext_getElem?
    intro j
    rw [Array.getElem?_setIfInBounds, s'.cells_at, s.cells_at, s.cells_size]
    by_cases hj : j < 2041
    · rw [if_pos hj, if_pos hj, he j hj]
      by_cases e : k = j
      · subst e; simp [hk]
      · rw [if_neg e, if_neg (fun h => e h.symm)]
    · rw [if_neg hj, if_neg hj]
      by_cases e : k = j
      · rw [if_pos e, if_neg (fun hx => hj (e ▸ hx))]
      · rw [if_neg e]
  unfold Nm
  rw [← e]
  exact this
theorem Nm.setN {w : World} {g : Nat} {s s' : Nv} (h : Nm w g s) (o : Nat) (vs : List Value) (he : ∀ j, j < 2041 → some (s'.val j) = if o ≤ j ∧ j < o + vs.length then vs[j - o]? else some (s.val j)) : Nm (w.setCells g o vs) g s' := by
  obtain ⟨cs', h1, h2, h3⟩ := Whole.setCells vs o w s.cells h
  have e : cs' = s'.cells := by
    apply Array.ext_getElem?
    intro j
    rw [h3 j, s'.cells_at, s.cells_size, s.cells_at]
    by_cases hj : j < 2041
    · rw [if_pos hj, if_pos hj, he j hj]
      by_cases hin : o ≤ j ∧ j < o + vs.length
      · rw [if_pos hin, if_pos ⟨hin.1, hin.2, hj⟩]
      · rw [if_neg hin, if_neg (fun hx => hin ⟨hx.1, hx.2.1⟩)]
    · rw [if_neg (fun hx => hj hx.2.2), if_neg hj, if_neg hj]
  rwa [e] at h1
theorem Nm.as {w : World} {g : Nat} {s s' : Nv} (h : Nm w g s) (e : s = s') : Nm w g s' := e ▸ h
end Go.Proofs.Ytjghhcbiaklomaa

/-
  Contracts of package nvm's small functions.
-/
namespace Go.Proofs.Ytjghhcbiaklomaa
set_option maxRecDepth 100000
open Go.RowKit

theorem lines_any (g : Nat) (s : Nv) (w : World) (h : Nm w g s) : Calls Try.prog 38 #[.pointer (some ⟨g, 0, none⟩)] w fun e w' => e = .returned (.int .i64 (s.n : Int)) ∧ w = w' := by
  have c0 := h.at_ (k := 2000) (by decide)
  rw [s.val_n] at c0
  clear h
  go_enter Try.func38, Try.ntmps38
  go_wp2
  go_ret
  exact ⟨rfl, rfl⟩
theorem lines_nil (w : World) : Calls Try.prog 38 #[.pointer none] w fun e w' => e = .returned (.int .i64 0) ∧ w = w' := by
  go_enter Try.func38, Try.ntmps38
  go_wp2
  go_ret
  exact ⟨rfl, rfl⟩
theorem writes_any (g : Nat) (s : Nv) (w : World) (h : Nm w g s) : Calls Try.prog 27 #[.pointer (some ⟨g, 0, none⟩)] w fun e w' => e = .returned (.int .i64 s.c) ∧ w = w' := by
  have c0 := h.at_ (k := 2036) (by decide)
  rw [s.val_c] at c0
  clear h
  go_enter Try.func27, Try.ntmps27
  go_wp2
  go_ret
  exact ⟨rfl, rfl⟩
theorem writes_nil (w : World) : Calls Try.prog 27 #[.pointer none] w fun e w' => e = .returned (.int .i64 0) ∧ w = w' := by
  go_enter Try.func27, Try.ntmps27
  go_wp2
  go_ret
  exact ⟨rfl, rfl⟩
theorem down_any (g : Nat) (s : Nv) (w : World) (h : Nm w g s) : Calls Try.prog 65 #[.pointer (some ⟨g, 0, none⟩)] w fun e w' => e = .returned (.bool s.dark) ∧ w = w' := by
  have c0 := h.at_ (k := 2037) (by decide)
  rw [s.val_dark] at c0
  clear h
  go_enter Try.func65, Try.ntmps65
  go_wp2
  go_ret
  exact ⟨rfl, rfl⟩
theorem down_nil (w : World) : Calls Try.prog 65 #[.pointer none] w fun e w' => e = .returned (.bool false) ∧ w = w' := by
  go_enter Try.func65, Try.ntmps65
  go_wp2
  go_ret
  exact ⟨rfl, rfl⟩
theorem hasLine_any (g : Nat) (s : Nv) (i : Int) (w : World) (h : Nm w g s) : Calls Try.prog 71 #[.pointer (some ⟨g, 0, none⟩), .int .i64 i] w fun e w' => e = .returned (.bool (s.has i)) ∧ w = w' := by
  have C := Lib.hid (lines_any g s w h)
  clear h
  by_cases hi : 0 ≤ i
  · go_enter Try.func71, Try.ntmps71
    go_wp2_with fail
    refine (C.out).mono ?_; rintro e w' ⟨rfl, rfl⟩
    go_wp2_with fail
    go_ret
    exact ⟨by simp [Nv.has, hi], rfl⟩
  · go_enter Try.func71, Try.ntmps71
    go_wp2
    go_wp2_with fail
    go_ret
    exact ⟨by simp [Nv.has]; omega, rfl⟩
theorem hasLine_nil (i : Int) (w : World) : Calls Try.prog 71 #[.pointer none, .int .i64 i] w fun e w' => e = .returned (.bool false) ∧ w = w' := by
  by_cases hi : 0 ≤ i
  · go_enter Try.func71, Try.ntmps71
    go_wp2_with fail
    refine (lines_nil w).mono ?_; rintro e w' ⟨rfl, rfl⟩
    go_wp2_with fail
    go_ret
    exact ⟨by simp [hi], rfl⟩
  · go_enter Try.func71, Try.ntmps71
    go_wp2
    go_wp2_with fail
    go_ret
    exact ⟨by simp, rfl⟩
theorem hasReg_any (g : Nat) (i : Int) (w : World) : Calls Try.prog 42 #[.pointer (some ⟨g, 0, none⟩), .int .i64 i] w fun e w' => e = .returned (.bool (hasR i)) ∧ w = w' := by
  go_enter Try.func42, Try.ntmps42
  go_wp2
  all_goals go_ret
  · exact ⟨by simp [hasR]; omega, rfl⟩
  · exact ⟨by simp [hasR]; omega, rfl⟩
theorem hasReg_nil (i : Int) (w : World) : Calls Try.prog 42 #[.pointer none, .int .i64 i] w fun e w' => e = .returned (.bool false) ∧ w = w' := by
  go_enter Try.func42, Try.ntmps42
  go_wp2
  go_ret
  exact ⟨rfl, rfl⟩
theorem ready_any (g : Nat) (s : Nv) (b : Bool) (w : World) (h : Nm w g s) : Calls Try.prog 41 #[.pointer (some ⟨g, 0, none⟩), .bool b] w fun e w' => e = .returned (.int .i64 (s.rdy b)) ∧ w = w' := by
  have c0 := h.at_ (k := 2037) (by decide)
  rw [s.val_dark] at c0
  clear h
  unfold Nv.rdy
  generalize s.dark = d at *
  cases b
  · go_enter Try.func41, Try.ntmps41
    go_wp2
    go_ret
    exact ⟨rfl, rfl⟩
  · cases d
    · go_enter Try.func41, Try.ntmps41
      go_wp2
      go_ret
      exact ⟨rfl, rfl⟩
    · go_enter Try.func41, Try.ntmps41
      go_wp2
      go_ret
      exact ⟨rfl, rfl⟩
theorem ready_nil (w : World) : Calls Try.prog 41 #[.pointer none, .bool false] w fun e w' => e = .returned (.int .i64 1) ∧ w = w' := by
  go_enter Try.func41, Try.ntmps41
  go_wp2
  go_ret
  exact ⟨rfl, rfl⟩
theorem worn_any (g : Nat) (s : Nv) (i : Nat) (w : World) (h : Nm w g s) (hi : i < 200) : Calls Try.prog 75 #[.pointer (some ⟨g, i * 10, none⟩)] w fun e w' => e = .returned (.bool (s.worn i)) ∧ ∃ n, w' = w.drewN n := by
  have c0 := h.at_ (k := i * 10 + 8) (by omega)
  have c1 := h.at_ (k := i * 10 + 9) (by omega)
  rw [s.val_wr hi] at c0
  rw [s.val_la hi] at c1
  clear h
  unfold Nv.worn
  generalize s.wr i = x at *
  generalize s.la i = y at *
  by_cases hy : 0 ≤ y
  · have t0 : decide (0 ≤ y) = true := by simpa using hy
    rw [t0]
    go_enter Try.func75, Try.ntmps75
    go_wp2_with fail
    go_quiet (fail)
    go_wp2
    go_ret
    exact ⟨by simp, _, rfl⟩
  · have t0 : decide (0 ≤ y) = false := by simpa using hy
    rw [t0]
    go_enter Try.func75, Try.ntmps75
    go_wp2_with fail
    go_quiet (fail)
    go_wp2
    go_ret
    exact ⟨by simp, _, rfl⟩
end Go.Proofs.Ytjghhcbiaklomaa

/-
  Contracts of package nvm's write, Wear, Cut, Power, Reg and Get.
-/
namespace Go.Proofs.Ytjghhcbiaklomaa
set_option maxRecDepth 100000
open Go.RowKit

theorem Nm.set_c {w : World} {g : Nat} {s : Nv} (h : Nm w g s) (x : Int) : Nm (w.setCell ⟨g, 2036, none⟩ (.int .i64 x)) g { s with c := x } :=
  h.set1 2036 _ (by decide) fun j hj => by
    by_cases e : j = 2036
    · subst e; rfl
    · rw [if_neg e]; simp only [Nv.val, e, if_false]
theorem Nm.set_dark {w : World} {g : Nat} {s : Nv} (h : Nm w g s) (x : Bool) : Nm (w.setCell ⟨g, 2037, none⟩ (.bool x)) g { s with dark := x } :=
  h.set1 2037 _ (by decide) fun j hj => by
    by_cases e : j = 2037
    · subst e; rfl
    · rw [if_neg e]; simp only [Nv.val, e, if_false]
theorem Nm.set_comes {w : World} {g : Nat} {s : Nv} (h : Nm w g s) (x : Bool) : Nm (w.setCell ⟨g, 2038, none⟩ (.bool x)) g { s with comes := x } :=
  h.set1 2038 _ (by decide) fun j hj => by
    by_cases e : j = 2038
    · subst e; rfl
    · rw [if_neg e]; simp only [Nv.val, e, if_false]
theorem Nm.set_ahead {w : World} {g : Nat} {s : Nv} (h : Nm w g s) (x : Int) : Nm (w.setCell ⟨g, 2039, none⟩ (.int .i64 x)) g { s with ahead := x } :=
  h.set1 2039 _ (by decide) fun j hj => by
    by_cases e : j = 2039
    · subst e; rfl
    · rw [if_neg e]; simp only [Nv.val, e, if_false]
theorem Nm.set_mask {w : World} {g : Nat} {s : Nv} (h : Nm w g s) (x : Int) : Nm (w.setCell ⟨g, 2040, none⟩ (.int .i64 x)) g { s with mask := x } :=
  h.set1 2040 _ (by decide) fun j hj => by
    by_cases e : j = 2040
    · subst e; rfl
    · rw [if_neg e]
      have h1 : j < 2000 ∨ j = 2000 ∨ (¬ j < 2000 ∧ j ≠ 2000 ∧ j < 2036) ∨ j = 2036 ∨ j = 2037 ∨ j = 2038 ∨ j = 2039 := by omega
      rcases h1 with h1 | h1 | ⟨h1, h2, h3⟩ | h1 | h1 | h1 | h1
      · simp only [Nv.val, if_pos h1]
      · subst h1; rfl
      · simp only [Nv.val, if_neg h1, if_neg h2, if_pos h3]
      all_goals (subst h1; rfl)

theorem write_idle (g : Nat) (s : Nv) (w : World) (h : Nm w g s) (hc : 0 ≤ s.c) (hc2 : s.c < 4611686018427387904) (hs : s.comes = false) :
    Calls Try.prog 43 #[.pointer (some ⟨g, 0, none⟩)] w fun e w' => e = .returned (.tuple #[.int .i64 255, .int .i64 0]) ∧ w' = w.setCell ⟨g, 2036, none⟩ (.int .i64 (s.c + 1)) := by
  have c0 := h.at_ (k := 2036) (by decide)
  rw [s.val_c] at c0
  have c1 := h.at_ (k := 2038) (by decide)
  rw [s.val_comes, hs] at c1
  have z0 := h.free 2036
  clear h
  generalize s.c = c at *
  go_enter Try.func43, Try.ntmps43
  go_wp2
  go_ret2
  exact ⟨rfl, rfl⟩
theorem write_ahead (g : Nat) (s : Nv) (w : World) (h : Nm w g s) (hc : 0 ≤ s.c) (hc2 : s.c < 4611686018427387904) (ha : s.ahead ≤ 9223372036854775807) (hs : s.comes = true) (hp : 0 < s.ahead) :
    Calls Try.prog 43 #[.pointer (some ⟨g, 0, none⟩)] w fun e w' => e = .returned (.tuple #[.int .i64 255, .int .i64 0]) ∧ w' = (w.setCell ⟨g, 2036, none⟩ (.int .i64 (s.c + 1))).setCell ⟨g, 2039, none⟩ (.int .i64 (s.ahead - 1)) := by
  have c0 := h.at_ (k := 2036) (by decide)
  rw [s.val_c] at c0
  have c1 := h.at_ (k := 2038) (by decide)
  rw [s.val_comes, hs] at c1
  have c2 := h.at_ (k := 2039) (by decide)
  rw [s.val_ahead] at c2
  have z0 := h.free 2036
  have z2 := h.free 2039
  clear h
  generalize s.c = c at *
  generalize s.ahead = a at *
  go_enter Try.func43, Try.ntmps43
  go_wp2
  go_ret2
  exact ⟨rfl, rfl⟩
theorem write_gone (g : Nat) (s : Nv) (w : World) (h : Nm w g s) (hc : 0 ≤ s.c) (hc2 : s.c < 4611686018427387904) (hs : s.comes = true) (hp : s.ahead ≤ 0) :
    Calls Try.prog 43 #[.pointer (some ⟨g, 0, none⟩)] w fun e w' => e = .returned (.tuple #[.int .i64 s.mask, .int .i64 2]) ∧ w' = (w.setCell ⟨g, 2036, none⟩ (.int .i64 (s.c + 1))).setCell ⟨g, 2037, none⟩ (.bool true) := by
  have c0 := h.at_ (k := 2036) (by decide)
  rw [s.val_c] at c0
  have c1 := h.at_ (k := 2038) (by decide)
  rw [s.val_comes, hs] at c1
  have c2 := h.at_ (k := 2039) (by decide)
  rw [s.val_ahead] at c2
  have c3 := h.at_ (k := 2040) (by decide)
  rw [s.val_mask] at c3
  have c4 := h.at_ (k := 2037) (by decide)
  rw [s.val_dark] at c4
  have z0 := h.free 2036
  have z1 := h.free 2037
  have z2 := h.free 2039
  clear h
  generalize s.c = c at *
  generalize s.ahead = a at *
  generalize s.mask = m at *
  generalize s.dark = d at *
  go_enter Try.func43, Try.ntmps43
  go_wp2
  go_ret2
  exact ⟨rfl, rfl⟩
theorem write_any (g : Nat) (s : Nv) (w : World) (h : Nm w g s) (hc : 0 ≤ s.c) (hc2 : s.c < 4611686018427387904) (ha : s.ahead ≤ 9223372036854775807) :
    Calls Try.prog 43 #[.pointer (some ⟨g, 0, none⟩)] w fun e w' => e = .returned (.tuple #[.int .i64 s.by_, .int .i64 s.told]) ∧ Nm w' g s.tick ∧ Chg [g] w w' := by
  have HC := Chg.refl [g] w
  have hD : g ∈ [g] ∨ w.heap.size ≤ g := .inl (by simp)
  by_cases hs : s.comes = true
  · by_cases hp : 0 < s.ahead
    · have hg : s.goes = false := by simp [Nv.goes]; intro _; omega
      refine (write_ahead g s w h hc hc2 ha hs hp).mono ?_
      rintro e w' ⟨rfl, rfl⟩
      refine ⟨by simp [Nv.by_, Nv.told, hg], (((h.set_c (s.c + 1)).set_ahead (s.ahead - 1))).as ?_, (HC.setCell (p := ⟨g, 2036, none⟩) hD _).setCell (p := ⟨g, 2039, none⟩) hD _⟩
      simp [Nv.tick, hs, hg, hp]
    · have hg : s.goes = true := by simp [Nv.goes, hs]; omega
      refine (write_gone g s w h hc hc2 hs (by omega)).mono ?_
      rintro e w' ⟨rfl, rfl⟩
      refine ⟨by simp [Nv.by_, Nv.told, hg], (((h.set_c (s.c + 1)).set_dark true)).as ?_, (HC.setCell (p := ⟨g, 2036, none⟩) hD _).setCell (p := ⟨g, 2037, none⟩) hD _⟩
      simp [Nv.tick, hs, hg, hp]
  · have hs' : s.comes = false := by simpa using hs
    have hg : s.goes = false := by simp [Nv.goes, hs']
    refine (write_idle g s w h hc hc2 hs').mono ?_
    rintro e w' ⟨rfl, rfl⟩
    refine ⟨by simp [Nv.by_, Nv.told, hg], (h.set_c (s.c + 1)).as ?_, HC.setCell (p := ⟨g, 2036, none⟩) hD _⟩
    simp [Nv.tick, hs', hg]


theorem power_any (g : Nat) (s : Nv) (w : World) (h : Nm w g s) : Calls Try.prog 19 #[.pointer (some ⟨g, 0, none⟩)] w fun e w' => e = .returned (.tuple #[]) ∧ Nm w' g s.power ∧ Chg [g] w w' := by
  have hD : g ∈ [g] ∨ w.heap.size ≤ g := .inl (by simp)
  have HN := Lib.hid ((((h.set_dark false).set_comes false).set_ahead 0).set_mask 0)
  have HC := Lib.hid (((((Chg.refl [g] w).setCell (p := ⟨g, 2037, none⟩) hD (.bool false)).setCell (p := ⟨g, 2038, none⟩) hD (.bool false)).setCell (p := ⟨g, 2039, none⟩) hD (.int .i64 0)).setCell (p := ⟨g, 2040, none⟩) hD (.int .i64 0))
  have c1 := h.at_ (k := 2037) (by decide)
  rw [s.val_dark] at c1
  have c2 := h.at_ (k := 2038) (by decide)
  rw [s.val_comes] at c2
  have c3 := h.at_ (k := 2039) (by decide)
  rw [s.val_ahead] at c3
  have c4 := h.at_ (k := 2040) (by decide)
  rw [s.val_mask] at c4
  have z1 := h.free 2037
  have z2 := h.free 2038
  have z3 := h.free 2039
  have z4 := h.free 2040
  clear h
  go_enter Try.func19, Try.ntmps19
  go_wp2
  go_end0
  exact ⟨rfl, HN.out, HC.out⟩
theorem power_nil (w : World) : Calls Try.prog 19 #[.pointer none] w fun e w' => e = .returned (.tuple #[]) ∧ w = w' := by
  go_enter Try.func19, Try.ntmps19
  go_wp2
  refine bodyPost_ret (results_none rfl _ _ _) rfl ?_
  exact ⟨rfl, rfl⟩
theorem cut_any (g : Nat) (s : Nv) (n m : Int) (w : World) (h : Nm w g s) : Calls Try.prog 18 #[.pointer (some ⟨g, 0, none⟩), .int .i64 n, .int .i64 m] w fun e w' => e = .returned (.tuple #[]) ∧ Nm w' g (s.cutAt n m) ∧ Chg [g] w w' := by
  have hD : g ∈ [g] ∨ w.heap.size ≤ g := .inl (by simp)
  have HN := Lib.hid (((h.set_comes (decide (0 ≤ n))).set_ahead n).set_mask m)
  have HC := Lib.hid ((((Chg.refl [g] w).setCell (p := ⟨g, 2038, none⟩) hD (.bool (decide (0 ≤ n)))).setCell (p := ⟨g, 2039, none⟩) hD (.int .i64 n)).setCell (p := ⟨g, 2040, none⟩) hD (.int .i64 m))
  have c2 := h.at_ (k := 2038) (by decide)
  rw [s.val_comes] at c2
  have c3 := h.at_ (k := 2039) (by decide)
  rw [s.val_ahead] at c3
  have c4 := h.at_ (k := 2040) (by decide)
  rw [s.val_mask] at c4
  have z2 := h.free 2038
  have z3 := h.free 2039
  have z4 := h.free 2040
  clear h
  go_enter Try.func18, Try.ntmps18
  go_wp2
  go_end0
  exact ⟨rfl, HN.out, HC.out⟩
theorem cut_nil (n m : Int) (w : World) : Calls Try.prog 18 #[.pointer none, .int .i64 n, .int .i64 m] w fun e w' => e = .returned (.tuple #[]) ∧ w = w' := by
  go_enter Try.func18, Try.ntmps18
  go_wp2
  refine bodyPost_ret (results_none rfl _ _ _) rfl ?_
  exact ⟨rfl, rfl⟩
end Go.Proofs.Ytjghhcbiaklomaa

/-
  Contracts of package nvm's Reg, Get and Set.
-/
namespace Go.Proofs.Ytjghhcbiaklomaa
set_option maxRecDepth 100000
open Go.RowKit

theorem has_nat {s : Nv} {i : Int} (h : s.has i = true) (ho : s.Ok) : ∃ k : Nat, i = k ∧ k < 200 ∧ k < s.n := by
  simp only [Nv.has, Bool.and_eq_true, decide_eq_true_eq] at h
  exact ⟨i.toNat, by omega, by have := ho.hi; omega, by omega⟩
theorem hasR_nat {i : Int} (h : hasR i = true) : ∃ k : Nat, i = k ∧ k < 35 := by
  simp only [hasR, Bool.and_eq_true, decide_eq_true_eq] at h
  exact ⟨i.toNat, by omega, by omega⟩
theorem rdy_zero {s : Nv} {b : Bool} (h : s.rdy b = 0) : b = true ∧ s.dark = false := by
  unfold Nv.rdy at h
  cases b <;> cases hd : s.dark <;> simp [hd] at h ⊢
theorem ret_2 {a b : Value} {a' b' : Value} (h : a = a') (h2 : b = b') : Ending.returned (.tuple #[a, b]) = .returned (.tuple #[a', b']) := by rw [h, h2]

/-- where it may not be reached -/
theorem reg_no (g : Nat) (s : Nv) (i : Int) (w : World) (h : Nm w g s) (hr : s.rdy (hasR i) ≠ 0) : Calls Try.prog 44 #[.pointer (some ⟨g, 0, none⟩), .int .i64 i] w fun e w' => e = .returned (.tuple #[.int .u64 0, .int .i64 (s.rdy (hasR i))]) ∧ w = w' := by
  have C := Lib.hid (hasReg_any g i w)
  have C1 := Lib.hid (ready_any g s (hasR i) w h)
  have t0 : (s.rdy (hasR i) != 0) = true := by simpa using hr
  clear h hr
  generalize hasR i = b at *
  generalize s.rdy b = x at *
  go_enter Try.func44, Try.ntmps44
  go_wp2_with fail
  refine (C.out).mono ?_; rintro e w' ⟨rfl, rfl⟩
  go_wp2_with fail
  refine (C1.out).mono ?_; rintro e w' ⟨rfl, rfl⟩
  go_wp2
  go_ret2
  exact ⟨rfl, rfl⟩
theorem reg_yes (g : Nat) (s : Nv) (k : Nat) (w : World) (h : Nm w g s) (hr : s.rdy (hasR k) = 0) : Calls Try.prog 44 #[.pointer (some ⟨g, 0, none⟩), .int .i64 k] w fun e w' => e = .returned (.tuple #[.int .u64 (s.rg k), .int .i64 0]) ∧ w = w' := by
  have C := Lib.hid (hasReg_any g k w)
  have C1 := Lib.hid (ready_any g s (hasR k) w h)
  obtain ⟨_, e, hk⟩ := hasR_nat (rdy_zero hr).1
  obtain rfl := Int.ofNat.inj e
  rw [hr] at C1
  have c0 := h.at_ (k := 2001 + k) (by omega)
  rw [s.val_rg hk] at c0
  clear h hr e
  generalize hasR (k : Int) = b at *
  generalize s.rg k = x at *
  go_enter Try.func44, Try.ntmps44
  go_wp2_with fail
  refine (C.out).mono ?_; rintro e w' ⟨rfl, rfl⟩
  go_wp2_with fail
  refine (C1.out).mono ?_; rintro e w' ⟨rfl, rfl⟩
  go_wp2
  go_ret2
  exact ⟨rfl, rfl⟩
theorem reg_any (g : Nat) (s : Nv) (i : Int) (w : World) (h : Nm w g s) : Calls Try.prog 44 #[.pointer (some ⟨g, 0, none⟩), .int .i64 i] w fun e w' => e = .returned (.tuple #[.int .u64 (s.rd i), .int .i64 (s.rdy (hasR i))]) ∧ w = w' := by
  by_cases hr : s.rdy (hasR i) = 0
  · obtain ⟨k, rfl, hk⟩ := hasR_nat (rdy_zero hr).1
    refine (reg_yes g s k w h hr).mono ?_
    rintro e w' ⟨rfl, rfl⟩
    exact ⟨ret_2 (by simp [Nv.rd, hr]) (by rw [hr]), rfl⟩
  · refine (reg_no g s i w h hr).mono ?_
    rintro e w' ⟨rfl, rfl⟩
    exact ⟨ret_2 (by simp [Nv.rd, hr]) rfl, rfl⟩
theorem reg_nil (i : Int) (w : World) : Calls Try.prog 44 #[.pointer none, .int .i64 i] w fun e w' => e = .returned (.tuple #[.int .u64 0, .int .i64 1]) ∧ w = w' := by
  go_enter Try.func44, Try.ntmps44
  go_wp2_with fail
  refine (hasReg_nil i w).mono ?_; rintro e w' ⟨rfl, rfl⟩
  go_wp2_with fail
  refine (ready_nil w).mono ?_; rintro e w' ⟨rfl, rfl⟩
  go_wp2
  go_ret2
  exact ⟨rfl, rfl⟩

/-- a line of the memory, loaded whole -/
theorem Nm.loadLine {w : World} {g : Nat} {s : Nv} (h : Nm w g s) {k : Nat} (hk : k < 200) (hl : (s.h k).length = 8) : (lineLoad (.pointer (some ⟨g, k * 10, none⟩))).run Try.prog w = .ok (.agg (lc (s.h k))) w := by
  unfold lineLoad
  have := run_loadAt_mid (P := Try.prog) w g (k * 10) 39 ((s.h k).map uv) _ (fun j v hv => by
    have hj : j < 8 := by
      have := (List.getElem?_eq_some_iff.1 hv).1
      simpa [hl] using this
    rw [h.at_ (by omega), s.val_h hk hj]
    rw [← hv]
    simp [uv, hl, hj]) Try.underlying39 rfl (by rw [info_line]; simp [hl])
  exact this
/-- a line stored into it -/
theorem Nm.storeLine {w : World} {g : Nat} {s : Nv} (h : Nm w g s) {k : Nat} (hk : k < 200) {l : List Int} (hl : l.length = 8) : (lineStore (.pointer (some ⟨g, k * 10, none⟩)) (.agg (lc l))).run Try.prog w = .ok () (w.setCells g (k * 10) (l.map uv)) := by
  unfold lineStore
  have := run_storeAt_mid (P := Try.prog) w g (k * 10) 39 (lc l) (fun j hj => by
    rw [lc_size, hl] at hj
    exact ⟨by rw [h.at_ (by omega)]; rfl, h.free _⟩) (by rw [info_line, lc_size, hl]) (lc_one l)
  exact this
theorem Nm.setLine {w : World} {g : Nat} {s : Nv} (h : Nm w g s) {k : Nat} (hk : k < 200) {l : List Int} (hl : l.length = 8) : Nm (w.setCells g (k * 10) (l.map uv)) g { s with h := upd s.h k l } := by
  refine h.setN (k * 10) _ fun j hj => ?_
  rw [List.length_map, hl]
  by_cases hin : k * 10 ≤ j ∧ j < k * 10 + 8
  · rw [if_pos hin]
    obtain ⟨i, rfl⟩ : ∃ i, j = k * 10 + i := ⟨j - k * 10, by omega⟩
    have hi : i < 8 := by omega
    rw [Nv.val_h _ hk hi, Nat.add_sub_cancel_left]
    simp [upd, uv, hl, hi]
  · rw [if_neg hin]
    by_cases h2 : j < 2000
    · by_cases h8 : j % 10 < 8
      · have e : j / 10 ≠ k := by omega
        simp only [Nv.val, if_pos h2, if_pos h8, upd, if_neg e]
      · simp only [Nv.val, if_pos h2, if_neg h8]
    · simp only [Nv.val, if_neg h2]
theorem Nm.setWear {w : World} {g : Nat} {s : Nv} (h : Nm w g s) {k : Nat} (hk : k < 200) (x : Int) : Nm (w.setCell ⟨g, k * 10 + 8, none⟩ (.int .i64 x)) g { s with wr := upd s.wr k x } := by
  refine h.set1 _ _ (by omega) fun j hj => ?_
  by_cases e : j = k * 10 + 8
  · subst e
    rw [if_pos rfl, Nv.val_wr _ hk]; simp [upd]
  · rw [if_neg e]
    by_cases h2 : j < 2000
    · by_cases h8 : j % 10 < 8
      · simp only [Nv.val, if_pos h2, if_pos h8]
      · by_cases h9 : j % 10 = 8
        · have e : j / 10 ≠ k := by omega
          simp only [Nv.val, if_pos h2, if_neg h8, if_pos h9, upd, if_neg e]
        · simp only [Nv.val, if_pos h2, if_neg h8, if_neg h9]
    · simp only [Nv.val, if_neg h2]
theorem Nm.setReg {w : World} {g : Nat} {s : Nv} (h : Nm w g s) {k : Nat} (hk : k < 35) (x : Int) : Nm (w.setCell ⟨g, 2001 + k, none⟩ (.int .u64 x)) g { s with rg := upd s.rg k x } := by
  refine h.set1 _ _ (by omega) fun j hj => ?_
  by_cases e : j = 2001 + k
  · subst e
    rw [if_pos rfl, Nv.val_rg _ hk]; simp [upd]
  · rw [if_neg e]
    by_cases h2 : j < 2000
    · simp only [Nv.val, if_pos h2]
    · by_cases h3 : j = 2000
      · subst h3; rfl
      · by_cases h4 : j < 2036
        · have e : j - 2001 ≠ k := by omega
          simp only [Nv.val, if_neg h2, if_neg h3, if_pos h4, upd, if_neg e]
        · simp only [Nv.val, if_neg h2, if_neg h3, if_neg h4]
theorem Nm.setLa {w : World} {g : Nat} {s : Nv} (h : Nm w g s) {k : Nat} (hk : k < 200) (x : Int) : Nm (w.setCell ⟨g, k * 10 + 9, none⟩ (.int .i64 x)) g { s with la := upd s.la k x } := by
  refine h.set1 _ _ (by omega) fun j hj => ?_
  by_cases e : j = k * 10 + 9
  · subst e
    rw [if_pos rfl, Nv.val_la _ hk]; simp [upd]
  · rw [if_neg e]
    by_cases h2 : j < 2000
    · by_cases h8 : j % 10 < 8
      · simp only [Nv.val, if_pos h2, if_pos h8]
      · by_cases h9 : j % 10 = 8
        · simp only [Nv.val, if_pos h2, if_neg h8, if_pos h9]
        · have e : j / 10 ≠ k := by omega
          simp only [Nv.val, if_pos h2, if_neg h8, if_neg h9, upd, if_neg e]
    · simp only [Nv.val, if_neg h2]
end Go.Proofs.Ytjghhcbiaklomaa

/-
  Contracts of package nvm's Get and Set.
-/
namespace Go.Proofs.Ytjghhcbiaklomaa
set_option maxRecDepth 100000
open Go.RowKit

theorem results_cell_tmp {P : Program} {fn : Func} {p q : Tmp} {ty : TypeId} (h : fn.results = #[.cell p ty, .tmp q]) (tmps : Array Value) (w : World) (v : Value) (g : Nat) (t : TypeId) (cs : Array Value) (fr : Nat × Nat) (d : TypeDesc)
    (hp : tmps.getD p undef = .pointer (some ⟨g, 0, none⟩)) (hq : tmps.getD q undef = v) (hg : w.heap[g]? = some (.cells cs t fr))
    (hu : P.underlying ty = some d) (hd : (match d with | .struct _ | .array _ _ => true | _ => false) = true) (hi : (P.info? ty).map (·.size) = some cs.size) :
    (results fn tmps).run P w = .ok (.tuple #[.agg cs, v]) w := by
  have hp' : tmps[p]?.getD undef = .pointer (some ⟨g, 0, none⟩) := by simpa using hp
  have hq' : tmps[q]?.getD undef = v := by simpa using hq
  simp [results, h, hp', hq', asAddr, run_loadVar_row w g t ty cs fr d hg hu hd hi]

theorem get_no (g : Nat) (s : Nv) (i : Int) (w : World) (h : Nm w g s) (hr : s.rdy (s.has i) ≠ 0) : Calls Try.prog 60 #[.pointer (some ⟨g, 0, none⟩), .int .i64 i] w fun e w' => e = .returned (.tuple #[.agg (lc zeros), .int .i64 (s.rdy (s.has i))]) ∧ Below w.heap.size w w' := by
  have h1 := h.alloc (.cells (lc zeros) 39)
  have C := Lib.hid (hasLine_any g s i _ h1)
  have C1 := Lib.hid (ready_any g s (s.has i) _ h1)
  have t0 : (s.rdy (s.has i) != 0) = true := by simpa using hr
  have HB := Lib.hid (bal (o := .cells (lc zeros) 39) (Below.refl w.heap.size w))
  have HN := Lib.hid (Ln.new w (l := zeros) rfl)
  have hz8 : zeros.length = 8 := rfl
  clear h h1 hr
  generalize s.has i = b at *
  generalize s.rdy b = x at *
  go_enter Try.func60, Try.ntmps60
  go_wp2_with fail
  refine (C.out).mono ?_; rintro e w' ⟨rfl, rfl⟩
  go_wp2_with fail
  refine (C1.out).mono ?_; rintro e w' ⟨rfl, rfl⟩
  go_wp2
  exact bodyPost_ret (v := .tuple #[.agg (lc zeros), .int .i64 x]) (results_cell_tmp rfl _ _ _ _ _ _ _ _ rfl rfl HN.out.1 Try.underlying39 rfl (by rw [info_line]; rfl)) rfl ⟨rfl, HB.out⟩
theorem get_yes (g : Nat) (s : Nv) (k : Nat) (w : World) (h : Nm w g s) (ho : s.Ok) (hr : s.rdy (s.has k) = 0) : Calls Try.prog 60 #[.pointer (some ⟨g, 0, none⟩), .int .i64 k] w fun e w' => e = .returned (.tuple #[.agg (lc (s.h k)), .int .i64 0]) ∧ Below w.heap.size w w' := by
  have h1 := h.alloc (.cells (lc zeros) 39)
  have C := Lib.hid (hasLine_any g s k _ h1)
  have C1 := Lib.hid (ready_any g s (s.has k) _ h1)
  obtain ⟨_, e, hk, _⟩ := has_nat (rdy_zero hr).1 ho
  obtain rfl := Int.ofNat.inj e
  rw [hr] at C1
  have hx := ho.line k
  have c0 := h1.loadLine hk hx
  have HB := Lib.hid (bal (o := .cells (lc (s.h k)) 39) (Below.refl w.heap.size w))
  have HN := Lib.hid (Ln.new w hx)
  have hz8 : zeros.length = 8 := rfl
  clear h h1 hr e ho
  generalize s.has (k : Int) = b at *
  generalize s.h k = x at *
  go_enter Try.func60, Try.ntmps60
  go_wp2_with fail
  refine (C.out).mono ?_; rintro e w' ⟨rfl, rfl⟩
  go_wp2_with fail
  refine (C1.out).mono ?_; rintro e w' ⟨rfl, rfl⟩
  go_wp2
  exact bodyPost_ret (v := .tuple #[.agg (lc x), .int .i64 0]) (results_cell_tmp rfl _ _ _ _ _ _ _ _ rfl rfl HN.out.1 Try.underlying39 rfl (by rw [info_line, lc_size, hx])) rfl ⟨rfl, HB.out⟩
theorem get_any (g : Nat) (s : Nv) (i : Int) (w : World) (h : Nm w g s) (ho : s.Ok) : Calls Try.prog 60 #[.pointer (some ⟨g, 0, none⟩), .int .i64 i] w fun e w' => e = .returned (.tuple #[.agg (lc (s.get i)), .int .i64 (s.rdy (s.has i))]) ∧ Below w.heap.size w w' := by
  by_cases hr : s.rdy (s.has i) = 0
  · obtain ⟨k, rfl, hk⟩ := has_nat (rdy_zero hr).1 ho
    refine (get_yes g s k w h ho hr).mono ?_
    rintro e w' ⟨rfl, hb⟩
    exact ⟨ret_2 (by simp [Nv.get, hr]) (by rw [hr]), hb⟩
  · refine (get_no g s i w h hr).mono ?_
    rintro e w' ⟨rfl, hb⟩
    exact ⟨ret_2 (by simp [Nv.get, hr]) rfl, hb⟩
theorem get_nil (i : Int) (w : World) : Calls Try.prog 60 #[.pointer none, .int .i64 i] w fun e w' => e = .returned (.tuple #[.agg (lc zeros), .int .i64 1]) ∧ Below w.heap.size w w' := by
  have HB := Lib.hid (bal (o := .cells (lc zeros) 39) (Below.refl w.heap.size w))
  have HN := Lib.hid (Ln.new w (l := zeros) rfl)
  go_enter Try.func60, Try.ntmps60
  go_wp2_with fail
  refine (hasLine_nil i _).mono ?_; rintro e w' ⟨rfl, rfl⟩
  go_wp2_with fail
  refine (ready_nil _).mono ?_; rintro e w' ⟨rfl, rfl⟩
  go_wp2
  exact bodyPost_ret (v := .tuple #[.agg (lc zeros), .int .i64 1]) (results_cell_tmp rfl _ _ _ _ _ _ _ _ rfl rfl HN.out.1 Try.underlying39 rfl (by rw [info_line]; rfl)) rfl ⟨rfl, HB.out⟩

theorem set_no (g : Nat) (s : Nv) (i v : Int) (w : World) (h : Nm w g s) (hr : s.rdy (hasR i) ≠ 0) : Calls Try.prog 26 #[.pointer (some ⟨g, 0, none⟩), .int .i64 i, .int .u64 v] w fun e w' => e = .returned (.int .i64 (s.rdy (hasR i))) ∧ w = w' := by
  have C := Lib.hid (hasReg_any g i w)
  have C1 := Lib.hid (ready_any g s (hasR i) w h)
  have t0 : (s.rdy (hasR i) != 0) = true := by simpa using hr
  clear h hr
  generalize hasR i = b at *
  generalize s.rdy b = x at *
  go_enter Try.func26, Try.ntmps26
  go_wp2_with fail
  refine (C.out).mono ?_; rintro e w' ⟨rfl, rfl⟩
  go_wp2_with fail
  refine (C1.out).mono ?_; rintro e w' ⟨rfl, rfl⟩
  go_wp2
  go_ret
  exact ⟨rfl, rfl⟩
theorem set_yes (g : Nat) (s : Nv) (k : Nat) (v : Int) (w : World) (h : Nm w g s) (hc : 0 ≤ s.c) (hc2 : s.c < 4611686018427387904) (ha : s.ahead ≤ 9223372036854775807) (hr : s.rdy (hasR k) = 0) (hm : s.by_ % 2 = 1) :
    Calls Try.prog 26 #[.pointer (some ⟨g, 0, none⟩), .int .i64 k, .int .u64 v] w fun e w' => e = .returned (.int .i64 s.told) ∧ Nm w' g (s.tick.reg k v) ∧ Chg [g] w w' := by
  have C := Lib.hid (hasReg_any g k w)
  have C1 := Lib.hid (ready_any g s (hasR k) w h)
  have C2 := Lib.hid (write_any g s w h hc hc2 ha)
  obtain ⟨_, e, hk⟩ := hasR_nat (rdy_zero hr).1
  obtain rfl := Int.ofNat.inj e
  rw [hr] at C1
  clear h hr e hc hc2 ha
  generalize hasR (k : Int) = b at *
  generalize s.by_ = m at *
  generalize s.told = t at *
  generalize s.tick = s1 at *
  clear s
  go_enter Try.func26, Try.ntmps26
  go_wp2_with fail
  refine (C.out).mono ?_; rintro e w' ⟨rfl, rfl⟩
  go_wp2_with fail
  refine (C1.out).mono ?_; rintro e w' ⟨rfl, rfl⟩
  go_wp2_with fail
  refine C2.out.mono ?_; rintro e w1 ⟨rfl, hN, hC⟩
  have c0 := hN.at_ (k := 2001 + k) (by omega)
  rw [s1.val_rg hk] at c0
  have z0 := hN.free (2001 + k)
  have HN := Lib.hid (hN.setReg hk v)
  have HC := Lib.hid (hC.setCell (p := ⟨g, 2001 + k, none⟩) (.inl (List.mem_singleton.2 rfl)) (.int .u64 v))
  clear hN hC
  go_wp2
  go_ret
  exact ⟨rfl, HN.out, HC.out⟩
theorem set_keep (g : Nat) (s : Nv) (k : Nat) (v : Int) (w : World) (h : Nm w g s) (hc : 0 ≤ s.c) (hc2 : s.c < 4611686018427387904) (ha : s.ahead ≤ 9223372036854775807) (hr : s.rdy (hasR k) = 0) (hm : ¬ s.by_ % 2 = 1) :
    Calls Try.prog 26 #[.pointer (some ⟨g, 0, none⟩), .int .i64 k, .int .u64 v] w fun e w' => e = .returned (.int .i64 s.told) ∧ Nm w' g s.tick ∧ Chg [g] w w' := by
  have C := Lib.hid (hasReg_any g k w)
  have C1 := Lib.hid (ready_any g s (hasR k) w h)
  have C2 := Lib.hid (write_any g s w h hc hc2 ha)
  rw [hr] at C1
  clear h hr hc hc2 ha
  generalize hasR (k : Int) = b at *
  generalize s.by_ = m at *
  generalize s.told = t at *
  generalize s.tick = s1 at *
  clear s
  go_enter Try.func26, Try.ntmps26
  go_wp2_with fail
  refine (C.out).mono ?_; rintro e w' ⟨rfl, rfl⟩
  go_wp2_with fail
  refine (C1.out).mono ?_; rintro e w' ⟨rfl, rfl⟩
  go_wp2_with fail
  refine C2.out.mono ?_; rintro e w1 ⟨rfl, hN, hC⟩
  have HN := Lib.hid hN
  have HC := Lib.hid hC
  clear hN hC
  go_wp2
  go_ret
  exact ⟨rfl, HN.out, HC.out⟩
theorem set_any (g : Nat) (s : Nv) (i v : Int) (w : World) (h : Nm w g s) (ho : s.Ok) (hc2 : s.c < 4611686018427387904) :
    Calls Try.prog 26 #[.pointer (some ⟨g, 0, none⟩), .int .i64 i, .int .u64 v] w fun e w' => e = .returned (.int .i64 (s.setE i)) ∧ Nm w' g (s.set i v) ∧ Chg [g] w w' := by
  have hc := Int.le_trans (ho.wr0 0) (ho.wr1 0)
  by_cases hr : s.rdy (hasR i) = 0
  · obtain ⟨k, rfl, hk⟩ := hasR_nat (rdy_zero hr).1
    by_cases hm : s.by_ % 2 = 1
    · refine (set_yes g s k v w h hc hc2 ho.ah hr hm).mono ?_
      rintro e w' ⟨rfl, hN, hC⟩
      exact ⟨by simp [Nv.setE, hr], hN.as (by simp [Nv.set, hr, hm]), hC⟩
    · refine (set_keep g s k v w h hc hc2 ho.ah hr hm).mono ?_
      rintro e w' ⟨rfl, hN, hC⟩
      exact ⟨by simp [Nv.setE, hr], hN.as (by simp [Nv.set, hr, hm]), hC⟩
  · refine (set_no g s i v w h hr).mono ?_
    rintro e w' ⟨rfl, rfl⟩
    exact ⟨by simp [Nv.setE, hr], h.as (by simp [Nv.set, hr]), Chg.refl _ _⟩
theorem set_nil (i v : Int) (w : World) : Calls Try.prog 26 #[.pointer none, .int .i64 i, .int .u64 v] w fun e w' => e = .returned (.int .i64 1) ∧ w = w' := by
  go_enter Try.func26, Try.ntmps26
  go_wp2_with fail
  refine (hasReg_nil i w).mono ?_; rintro e w' ⟨rfl, rfl⟩
  go_wp2_with fail
  refine (ready_nil w).mono ?_; rintro e w' ⟨rfl, rfl⟩
  go_wp2
  go_ret
  exact ⟨rfl, rfl⟩
end Go.Proofs.Ytjghhcbiaklomaa

/-
  Contract of package nvm's Put.
-/
namespace Go.Proofs.Ytjghhcbiaklomaa
set_option maxRecDepth 100000
open Go.RowKit

theorem put_no (g : Nat) (s : Nv) (i : Int) (l : List Int) (w : World) (h : Nm w g s) (hr : s.rdy (s.has i) ≠ 0) : Calls Try.prog 68 #[.pointer (some ⟨g, 0, none⟩), .int .i64 i, .agg (lc l)] w fun e w' => e = .returned (.int .i64 (s.rdy (s.has i))) ∧ w' = w.alloc (.cells (lc l) 39) := by
  have h1 := h.alloc (.cells (lc l) 39)
  have C := Lib.hid (hasLine_any g s i _ h1)
  have C1 := Lib.hid (ready_any g s (s.has i) _ h1)
  have t0 : (s.rdy (s.has i) != 0) = true := by simpa using hr
  clear h h1 hr
  generalize s.has i = b at *
  generalize s.rdy b = x at *
  go_enter Try.func68, Try.ntmps68
  go_wp2_with fail
  refine (C.out).mono ?_; rintro e w' ⟨rfl, rfl⟩
  go_wp2_with fail
  refine (C1.out).mono ?_; rintro e w' ⟨rfl, rfl⟩
  go_wp2
  go_ret
  exact ⟨rfl, rfl⟩

theorem put_worn (g : Nat) (s : Nv) (k : Nat) (l : List Int) (w : World) (h : Nm w g s) (hc : 0 ≤ s.c) (hc2 : s.c < 4611686018427387904) (ha : s.ahead ≤ 9223372036854775807) (hk : k < 200) (hr : s.rdy (s.has k) = 0) (hw : s.worn k = true) :
    Calls Try.prog 68 #[.pointer (some ⟨g, 0, none⟩), .int .i64 k, .agg (lc l)] w fun e w' => e = .returned (.int .i64 (if s.told = 0 then 3 else s.told)) ∧ Nm w' g s.tick ∧ Chg [g] w w' := by
  have h1 := h.alloc (.cells (lc l) 39)
  have C := Lib.hid (hasLine_any g s k _ h1)
  have C1 := Lib.hid (ready_any g s (s.has k) _ h1)
  have C2 := Lib.hid (write_any g s _ h1 hc hc2 ha)
  have HA := Lib.hid ((Chg.refl [g] w).alloc (.cells (lc l) 39))
  have C3 := Lib.hid (fun w1 (hN : Nm w1 g s.tick) => worn_any g s.tick k w1 hN hk)
  have e : s.tick.worn k = true := hw
  rw [e] at C3
  rw [hr] at C1
  clear h h1 hr hc hc2 ha hw e
  generalize s.has (k : Int) = b at *
  generalize s.by_ = m at *
  generalize s.tick = s1 at *
  have t1 : s.told = 0 ∨ s.told = 2 := by unfold Nv.told; split <;> simp
  generalize s.told = t at *
  clear s
  rcases t1 with rfl | rfl
  · go_enter Try.func68, Try.ntmps68
    go_wp2_with fail
    refine (C.out).mono ?_; rintro e w' ⟨rfl, rfl⟩
    go_wp2_with fail
    refine (C1.out).mono ?_; rintro e w' ⟨rfl, rfl⟩
    go_wp2_with fail
    refine C2.out.mono ?_; rintro e w1 ⟨rfl, hN, hC⟩
    have HN := Lib.hid hN
    have HC := Lib.hid (HA.out.trans hC)
    clear hN hC
    go_wp2_with fail
    refine (C3.out w1 HN.out).mono ?_; rintro e w2 ⟨rfl, n, rfl⟩
    go_wp2
    go_ret
    exact ⟨rfl, HN.out, HC.out.drewN _⟩
  · go_enter Try.func68, Try.ntmps68
    go_wp2_with fail
    refine (C.out).mono ?_; rintro e w' ⟨rfl, rfl⟩
    go_wp2_with fail
    refine (C1.out).mono ?_; rintro e w' ⟨rfl, rfl⟩
    go_wp2_with fail
    refine C2.out.mono ?_; rintro e w1 ⟨rfl, hN, hC⟩
    have HN := Lib.hid hN
    have HC := Lib.hid (HA.out.trans hC)
    clear hN hC
    go_wp2_with fail
    refine (C3.out w1 HN.out).mono ?_; rintro e w2 ⟨rfl, n, rfl⟩
    go_wp2
    go_ret
    exact ⟨rfl, HN.out, HC.out.drewN _⟩

theorem Nv.lay_eq (s : Nv) (k : Nat) (l : List Int) (m : Int) : ({ { s with wr := upd s.wr k (s.wr k + 1) } with h := upd s.h k (mix (s.h k) l m) } : Nv) = s.lay k l m := rfl

set_option maxHeartbeats 1000000 in
theorem put_yes (g : Nat) (s : Nv) (k : Nat) (l : List Int) (w : World) (h : Nm w g s) (ho : s.Ok) (hc2 : s.c < 4611686018427387904) (hl : l.length = 8) (hk : k < 200) (hr : s.rdy (s.has k) = 0) (hw : s.worn k = false) :
    Calls Try.prog 68 #[.pointer (some ⟨g, 0, none⟩), .int .i64 k, .agg (lc l)] w fun e w' => e = .returned (.int .i64 s.told) ∧ Nm w' g (s.tick.lay k l s.by_) ∧ Chg [g] w w' := by
  have hc := Int.le_trans (ho.wr0 0) (ho.wr1 0)
  have h1 := h.alloc (.cells (lc l) 39)
  have C := Lib.hid (hasLine_any g s k _ h1)
  have C1 := Lib.hid (ready_any g s (s.has k) _ h1)
  have C2 := Lib.hid (write_any g s _ h1 hc hc2 ho.ah)
  have HL := Lib.hid (Ln.new w hl)
  have HG := Lib.hid (Nat.ne_of_gt h.lt)
  have HA := Lib.hid ((Chg.refl [g] w).alloc (.cells (lc l) 39))
  have C3 := Lib.hid (fun w1 (hN : Nm w1 g s.tick) => worn_any g s.tick k w1 hN hk)
  have e : s.tick.worn k = false := hw
  rw [e] at C3
  rw [hr] at C1
  have hx := ho.line k
  have hx1 : (s.tick.h k).length = 8 := hx
  have q0 : 0 ≤ s.tick.wr k := ho.wr0 k
  have q1 : s.tick.wr k < 4611686018427387904 := Int.lt_of_le_of_lt (ho.wr1 k) hc2
  have hm := mix_length (s.tick.h k) l s.by_ (hx1.trans hl.symm)
  rw [hx1] at hm
  have t1 : s.told = 0 ∨ s.told = 2 := by unfold Nv.told; split <;> simp
  have hD : g ∈ [g] := List.mem_singleton.2 rfl
  clear h h1 hr hc hc2 ho hw e hx
  generalize s.has (k : Int) = b at *
  generalize s.by_ = m at *
  generalize s.tick = s1 at *
  generalize s.told = t at *
  clear s
  go_enter Try.func68, Try.ntmps68
  go_wp2_with fail
  refine (C.out).mono ?_; rintro e w' ⟨rfl, rfl⟩
  go_wp2_with fail
  refine (C1.out).mono ?_; rintro e w' ⟨rfl, rfl⟩
  go_wp2_with fail
  refine C2.out.mono ?_; rintro e w1 ⟨rfl, hN, hC⟩
  have HN := Lib.hid hN
  have L1 := Lib.hid (hC.ln HL.out (by simp [HG.out]))
  have HC := Lib.hid (HA.out.trans hC)
  clear hN hC
  have c8 := HN.out.at_ (k := k * 10 + 8) (by omega)
  rw [s1.val_wr hk] at c8
  have z8 := HN.out.free (k * 10 + 8)
  go_wp2_with fail
  refine (C3.out w1 HN.out).mono ?_; rintro e w2 ⟨rfl, n, rfl⟩
  obtain ⟨W, hW⟩ : ∃ W, (w1.drewN n).setCell ⟨g, k * 10 + 8, none⟩ (.int .i64 (s1.wr k + 1)) = W := ⟨_, rfl⟩
  have NW := (HN.out.drewN n).setWear hk (s1.wr k + 1)
  rw [hW] at NW
  have CW := (HC.out.drewN n).setCell (p := ⟨g, k * 10 + 8, none⟩) (.inl hD) (.int .i64 (s1.wr k + 1))
  rw [hW] at CW
  have LW := (L1.out.drewN n).other HG.out (i := k * 10 + 8) (.int .i64 (s1.wr k + 1))
  rw [hW] at LW
  have HNW := Lib.hid NW
  have HCW := Lib.hid CW
  have ll := LW.later
  have lm : ∀ w' : World, Below W.heap.size W w' → (lineLoad (.pointer (some ⟨g, k * 10, none⟩))).run Try.prog w' = .ok (.agg (lc (s1.h k))) w' := fun w' hb => (NW.below hb).loadLine hk hx1
  have HST := Lib.hid (fun (w' : World) (hb : Below W.heap.size W w') => (NW.below hb).storeLine hk hm)
  have HSE : Hid (∀ (w' : World), Below W.heap.size W w' → Nm (w'.setCells g (k * 10) ((mix (s1.h k) l m).map uv)) g (s1.lay k l m)) := Lib.hid (fun (w' : World) (hb : Below W.heap.size W w') => ((NW.below hb).setLine hk hm).as (Nv.lay_eq s1 k l m))
  clear NW CW LW
  have hmix : mix (s1.h k) l m = mix (s1.h k) l m := rfl
  obtain ⟨x, ex⟩ : ∃ x, mix (s1.h k) l m = x := ⟨_, rfl⟩
  rw [ex] at HST HSE hm
  have CM := Lib.hid (fun w => mix_is (m := m) ex w hx1 hl)
  have hbd : Below W.heap.size W W.drew := (Below.refl _ _).drew
  go_wp2
  go_region_law (first
    | (go_simp; go_at_call 76; refine (CM.out _).mono ?_; rintro e wq ⟨rfl, hbq⟩
       have hst := HST.out wq (hbd.trans hbq)
       have HQ := Lib.hid (hbd.trans hbq)
       clear hbq))
  all_goals
    have HN3 := Lib.hid (HSE.out wq HQ.out)
    have HC3 := Lib.hid (Chg.setCells (D := [g]) (w := w) (b := g) (.inl hD) (x.map uv) (k * 10) wq (HCW.out.trans (Chg.of_below HQ.out [g])))
    go_wp2
    go_ret
    exact ⟨rfl, HN3.out, HC3.out⟩

theorem put_any (g : Nat) (s : Nv) (i : Int) (l : List Int) (w : World) (h : Nm w g s) (ho : s.Ok) (hc2 : s.c < 4611686018427387904) (hl : l.length = 8) :
    Calls Try.prog 68 #[.pointer (some ⟨g, 0, none⟩), .int .i64 i, .agg (lc l)] w fun e w' => e = .returned (.int .i64 (s.putE i)) ∧ Nm w' g (s.put i l) ∧ Chg [g] w w' := by
  have hc := Int.le_trans (ho.wr0 0) (ho.wr1 0)
  by_cases hr : s.rdy (s.has i) = 0
  · obtain ⟨k, rfl, hk, _⟩ := has_nat (rdy_zero hr).1 ho
    cases hw : s.worn k
    · refine (put_yes g s k l w h ho hc2 hl hk hr hw).mono ?_
      rintro e w' ⟨rfl, hN, hC⟩
      exact ⟨by simp [Nv.putE, hr, hw], hN.as (by simp [Nv.put, hr, hw]), hC⟩
    · refine (put_worn g s k l w h hc hc2 ho.ah hk hr hw).mono ?_
      rintro e w' ⟨rfl, hN, hC⟩
      refine ⟨ret_i64 ?_, hN.as (by simp [Nv.put, hr, hw]), hC⟩
      unfold Nv.putE Nv.told
      cases hg : s.goes <;> simp [hr, hw]
  · refine (put_no g s i l w h hr).mono ?_
    rintro e w' ⟨rfl, rfl⟩
    exact ⟨by simp [Nv.putE, hr], (h.alloc _).as (by simp [Nv.put, hr]), (Chg.refl _ _).alloc _⟩
theorem put_nil (i : Int) (l : List Int) (w : World) : Calls Try.prog 68 #[.pointer none, .int .i64 i, .agg (lc l)] w fun e w' => e = .returned (.int .i64 1) ∧ Below w.heap.size w w' := by
  have HB := Lib.hid (bal (o := .cells (lc l) 39) (Below.refl w.heap.size w))
  go_enter Try.func68, Try.ntmps68
  go_wp2_with fail
  refine (hasLine_nil i _).mono ?_; rintro e w' ⟨rfl, rfl⟩
  go_wp2_with fail
  refine (ready_nil _).mono ?_; rintro e w' ⟨rfl, rfl⟩
  go_wp2
  go_ret
  exact ⟨rfl, HB.out⟩
end Go.Proofs.Ytjghhcbiaklomaa

/-
  Slices of ints: how they read, how they came in, those of a call's own; append onto them. (The part of Mem and App that is about ints.)
-/
namespace Go.Proofs.Ytjghhcbiaklomaa
set_option maxRecDepth 100000
open Go.ChangeShapes Go.WideShapes Go.ChangeAt Go.RowKit

def iv (x : Int) : Value := .int .i64 x
/-- a slice of ints that can be read: it holds l -/
def RI (w : World) (v : Value) (l : List Int) : Prop :=
  ∃ p cap, v = .slice p l.length cap ∧ l.length ≤ cap ∧ cap ≤ maxLen ∧ (l = [] ∨ ∃ b off, p = some ⟨b, off, none⟩ ∧ ∀ i, i < l.length → w.cell? ⟨b, off + i, none⟩ = some (.int .i64 (l.getD i 0)))
theorem ri_same {w w' : World} {v : Value} {l : List Int} (h : RI w v l) (hb : ∀ p : Addr, p.block < w.heap.size → w'.cell? p = w.cell? p) : RI w' v l := by
  obtain ⟨p, cap, rfl, h1, h2, h | ⟨b, off, rfl, hc⟩⟩ := h
  · exact ⟨p, cap, rfl, h1, h2, .inl h⟩
  · refine ⟨_, cap, rfl, h1, h2, .inr ⟨b, off, rfl, fun i hi => ?_⟩⟩
    have := hc i hi
    rw [hb _ (World.block_lt_of_cell? w _ this)]; exact this
theorem ri_below {w w' : World} {v : Value} {l : List Int} (h : RI w v l) (hb : Below w.heap.size w w') : RI w' v l := ri_same h fun _ hp => hb.cell hp
theorem ri_in {w : World} {v : Value} {l : List Int} (h : IntsIn .i64 w v l) : RI w v l := by
  obtain ⟨p, cap, rfl, h1, h2, _, ⟨rfl, _⟩ | ⟨b, off, rfl, _, hc⟩⟩ := h
  · exact ⟨p, cap, rfl, h1, h2, .inl rfl⟩
  · exact ⟨_, cap, rfl, h1, h2, .inr ⟨b, off, rfl, hc⟩⟩
theorem in_wf {w : World} {v : Value} {l : List Int} (h : IntsIn .i64 w v l) : ∀ n ∈ l, (Lit.int .i64 n).wf = true := by
  obtain ⟨p, cap, rfl, h1, h2, h3, _⟩ := h; exact h3
theorem ri_nil (w : World) : RI w (.slice none 0 0) [] := ⟨none, 0, rfl, Nat.le_refl _, Nat.zero_le _, .inl rfl⟩
theorem ri_some {w : World} {p : Option Addr} {n cap : Nat} {l : List Int} (h : RI w (.slice p n cap) l) (h0 : 0 < l.length) : ∃ b off, p = some ⟨b, off, none⟩ ∧ b < w.heap.size ∧ ∀ i, i < l.length → w.cell? ⟨b, off + i, none⟩ = some (.int .i64 (l.getD i 0)) := by
  obtain ⟨p', cap', e, _, _, h | ⟨b, off, rfl, hc⟩⟩ := h
  · subst h; cases h0
  · cases e; exact ⟨b, off, rfl, World.block_lt_of_cell? w _ (hc 0 h0), hc⟩
/-- a slice of ints of a call's own -/
def OwnI (B : Nat) (w : World) (v : Value) (l : List Int) : Prop := w.ownsRow B 3 1 v l.length (l.map iv)
theorem OwnI.ri {B : Nat} {w : World} {v : Value} {l : List Int} (h : OwnI B w v l) : RI w v l := by
  have h' : w.ownsRow B 3 1 v l.length (l.map iv) := h
  obtain ⟨_, ⟨rfl, h0⟩ | ⟨g, cap, cur, rfl, _, _, h1, h2, _⟩⟩ := h
  · rw [List.eq_nil_of_length_eq_zero h0]; exact ri_nil w
  · refine ⟨_, cap, rfl, h1, h2, .inr ⟨g, 0, rfl, fun i hi => ?_⟩⟩
    have := h'.cells (g := g) rfl i (iv (l.getD i 0)) (by simp [hi])
    have e : (⟨g, 0, none⟩ : Addr).add i = ⟨g, 0 + i, none⟩ := Go.WideShapes.add_plain ..
    rw [e] at this; exact this
theorem OwnI.shape {B : Nat} {w : World} {v : Value} {l : List Int} (h : OwnI B w v l) : ∃ p c, v = .slice p l.length c := by
  obtain ⟨p, c, h, _⟩ := h.ri; exact ⟨p, c, h⟩
theorem OwnI.mono {B B' : Nat} {w : World} {v : Value} {l : List Int} (h : OwnI B w v l) (hb : B' ≤ B) : OwnI B' w v l :=
  ⟨h.1, h.2.imp id fun ⟨g, cap, cur, hv, hg, r⟩ => ⟨g, cap, cur, hv, Nat.le_trans hb hg, r⟩⟩
theorem OwnI.far {B : Nat} {w : World} {v : Value} {l : List Int} (h : OwnI B w v l) {p : Addr} (hp : p.block < B) (u : Value) : OwnI B (w.setCell p u) v l := ownsRow_setCell_below h hp u
theorem info_int : (Try.prog.info? 3).map (fun i => (i.zero, i.size, i.bytes)) = some (some (.int .i64 0), 1, 8) := by kernel_rfl
theorem cells_int : Try.prog.cellsOf 3 = 1 := by kernel_rfl

theorem iv_one (l : List Int) : ∀ u ∈ l.map iv, u.oneCell' = true := by
  intro u hu; obtain ⟨x, _, rfl⟩ := List.mem_map.1 hu; rfl
/-- nothing behind it -/
theorem run_app_none {P : Program} (w : World) (base : Nat) (t ty e : TypeId) (i : TypeInfo) (size : Nat) (ht : P.underlying t = some (.slice e)) (hi : P.info? e = some i)
    (v : Value) (n : Nat) (xs : List Value) (hown : w.ownsRow base e size v n xs) (c : Nat) : (Builtin.append_ #[t, t] ty #[v, .slice none 0 c]).run P w = .ok v w := by
  obtain ⟨_, ⟨rfl, rfl⟩ | ⟨g, cap, cur, rfl, _, _, hc, _⟩⟩ := hown <;> simp [Builtin.append_, run_underlying ht, sizeOf, typeInfo, Builtin.lenOf, Builtin.firstCells, storeCells, *]
theorem run_app_int (B : Nat) (v : Value) (l : List Int) (w : World) (hown : OwnI B w v l) (u : Value) (r : List Int) (hr : RI w u r) (hlen : l.length + r.length ≤ 1000000) (hB : B ≤ w.heap.size) (ty : TypeId) :
    ∃ v' w', (Builtin.append_ #[22, 22] ty #[v, u]).run Try.prog w = .ok v' w' ∧ OwnI B w' v' (l ++ r) ∧ w.grownBy w' v.ownBlock ∧ (v'.ownBlock = v.ownBlock ∨ v'.ownBlock = some w.heap.size) := by
  obtain ⟨i0, hi, hz0, hz1, hz2⟩ := info_parts info_int
  obtain ⟨A, c, rfl, h1, h2, h3⟩ := hr
  have fin : ∀ w' v', w'.ownsRow B 3 1 v' (l.length + r.length) (l.map iv ++ r.map iv) → OwnI B w' v' (l ++ r) := fun w' v' h => by
    unfold OwnI; rw [List.length_append, List.map_append]; exact h
  cases A with
  | none =>
    have hr0 : r = [] := by
      rcases h3 with h3 | ⟨b, off, h, _⟩
      · exact h3
      · cases h
    subst hr0
    exact ⟨v, w, run_app_none w B _ ty _ i0 1 Try.underlying22 hi v _ _ hown c, by simpa using hown, World.grownBy.refl w _, .inl rfl⟩
  | some ad =>
    have hc : ∀ j u, (r.map iv)[j]? = some u → w.cell? (ad.add j) = some u := by
      intro j u hu
      rcases h3 with h3 | ⟨b, off, h, hc⟩
      · subst h3; simp at hu
      · cases h
        have hj : j < r.length := by have := (List.getElem?_eq_some_iff.1 hu).1; simpa using this
        have e : (⟨b, off, none⟩ : Addr).add j = ⟨b, off + j, none⟩ := Go.WideShapes.add_plain ..
        rw [e, hc j hj]
        simp [hj] at hu
        rw [← hu]; simp [iv, hj]
    obtain ⟨v', w', hrun, g1, g2, _, g4⟩ := run_append_own_at (P := Try.prog) w B 22 ty 3 i0 (.int .i64 0) 1 8 Try.underlying22 hi hz0 hz1 hz2 rfl (by decide) v l.length (l.map iv) hown ad r.length c (r.map iv) (by simp) hc (iv_one r) (by unfold maxLen; omega) (by omega) hB
    exact ⟨v', w', hrun, fin _ _ g1, g2, g4⟩
section
variable {ops : Array Oper} {rest : List Oper} {o : Oper} {a : Act} {w : World} {Q : Exit → Act → World → Prop} {K : Act → World → Prop}
theorem wp_app_int (s x : Operand) (ho : o.op = .call { callee := .builtin .append, args := #[s, x], argTypes := #[22, 22] }) (B : Nat) (v : Value) (l : List Int) (hs : a.eval s = v) (hown : OwnI B w v l)
    (u : Value) (r : List Int) (hx : a.eval x = u) (hr : RI w u r) (hlen : l.length + r.length ≤ 1000000) (hB : B ≤ w.heap.size)
    (h : ∀ v' w', OwnI B w' v' (l ++ r) → w.grownBy w' v.ownBlock → (v'.ownBlock = v.ownBlock ∨ v'.ownBlock = some w.heap.size) → K (a.put o.dst v') w') : o.wp Try.prog a w K Q := by
  obtain ⟨v', w', hrun, h2, h3, h4⟩ := run_app_int B v l w hown u r hr hlen hB o.type
  unfold Oper.wp execOp
  simp only [ho, resolve, invoke, builtin, Sem.run_bind, Sem.run_pure, Result.andThen_ok, List.map_toArray, List.map_cons, List.map_nil, hs, hx, hrun]
  exact h v' w' h2 h3 h4
theorem list_app_int (hgd : o.guard = none) (s x : Operand) (ho : o.op = .call { callee := .builtin .append, args := #[s, x], argTypes := #[22, 22] }) (B : Nat) (v : Value) (l : List Int) (hs : a.eval s = v) (hown : OwnI B w v l)
    (u : Value) (r : List Int) (hx : a.eval x = u) (hr : RI w u r) (hlen : l.length + r.length ≤ 1000000) (hB : B ≤ w.heap.size)
    (h : ∀ v' w', OwnI B w' v' (l ++ r) → w.grownBy w' v.ownBlock → (v'.ownBlock = v.ownBlock ∨ v'.ownBlock = some w.heap.size) → wpList Try.prog ops Q rest (a.put o.dst v') w') : wpList Try.prog ops Q (o :: rest) a w :=
  wpList_plain hgd fun _ hK => wp_app_int s x ho B v l hs hown u r hx hr hlen hB fun v' w' h2 h3 h4 => hK _ _ (h v' w' h2 h3 h4)
theorem step_app_int {E : Prop} (hgd : o.guard = none) (s x : Operand) (ho : o.op = .call { callee := .builtin .append, args := #[s, x], argTypes := #[22, 22] }) (B : Nat) (v : Value) (l : List Int) (hs : a.eval s = v) (hown : OwnI B w v l)
    (u : Value) (r : List Int) (hx : a.eval x = u) (hr : RI w u r) (hlen : l.length + r.length ≤ 1000000) (hB : B ≤ w.heap.size)
    (h : ∀ v' w', OwnI B w' v' (l ++ r) → w.grownBy w' v.ownBlock → (v'.ownBlock = v.ownBlock ∨ v'.ownBlock = some w.heap.size) → K (a.put o.dst v') w') : if Region.wanted o (yielded ops a.tmps) = true then o.wp Try.prog a w K Q else E := by
  rw [if_pos (by simp [Region.wanted, hgd])]
  exact wp_app_int s x ho B v l hs hown u r hx hr hlen hB h
end
theorem own_lit (w : World) (l : List Int) (hl : l.length ≤ maxLen) : OwnI w.heap.size (w.alloc (.cells (l.map iv).toArray 3)) (.slice (some ⟨w.heap.size, 0, none⟩) l.length l.length) l := by
  have h := World.ownsRow_lit (e := 3) (size := 1) (base := w.heap.size) w (l.map iv).toArray l.length (Nat.le_refl _) hl (by simp)
  simpa [OwnI] using h
theorem ri_one (w : World) (x : Int) : RI (w.alloc (.cells #[.int .i64 x] 3)) (.slice (some ⟨w.heap.size, 0, none⟩) 1 1) [x] := (own_lit w [x] (by unfold maxLen; simp)).ri
end Go.Proofs.Ytjghhcbiaklomaa

/-
  Contract of package nvm's New.
-/
namespace Go.Proofs.Ytjghhcbiaklomaa
set_option maxRecDepth 100000
open Go.RowKit

def zeroNv (n : Nat) : Nv := { n := n, h := fun _ => zeros, wr := fun _ => 0, la := fun _ => 0, rg := fun _ => 0, c := 0, dark := false, comes := false, ahead := 0, mask := 0 }
theorem zero_mem : (Try.prog.info? 73).map (fun i => (i.zero, i.size)) = some (some (.agg (zeroNv 0).cells), 2041) := by kernel_rfl

theorem cells_put {s s' : Nv} (k : Nat) (v : Value) (hk : k < 2041) (he : ∀ j, j < 2041 → s'.val j = if j = k then v else s.val j) : s.cells.setIfInBounds k v = s'.cells := by
  apply Array.ext_getElem?
  intro j
  rw [Array.getElem?_setIfInBounds, s'.cells_at, s.cells_at, s.cells_size]
  by_cases hj : j < 2041
  · rw [if_pos hj, if_pos hj, he j hj]
    by_cases e : k = j
    · subst e; simp [hk]
    · rw [if_neg e, if_neg (fun h => e h.symm)]
  · rw [if_neg hj, if_neg hj]
    by_cases e : k = j
    · rw [if_pos e, if_neg (fun hx => hj (e ▸ hx))]
    · rw [if_neg e]
theorem zero_put (n : Nat) : (zeroNv 0).cells.setIfInBounds 2000 (.int .i64 n) = (zeroNv n).cells := by
  refine cells_put 2000 _ (by decide) fun j hj => ?_
  by_cases e : j = 2000
  · subst e; rfl
  · rw [if_neg e]; simp only [Nv.val, zeroNv, e, if_false]

theorem places_mem : (match Try.prog.underlying 73 with
    | some (.struct fields) => fields.toList.mapM (fun f => (Try.prog.info? f.type).map fun i => (f.offset, i.size))
    | _ => none) = some [(0, 2000), (2000, 1), (2001, 35), (2036, 1), (2037, 1), (2038, 3)] := by kernel_rfl

theorem built_mem (n : Nat) : Try.prog.built 73 [(1, .int .i64 n)] = some (zeroNv n).cells := by
  have hz := zero_mem
  have hp := places_mem
  have hs := (zeroNv 0).cells_size
  rw [← zero_put n]
  generalize (zeroNv 0).cells = Z at *
  unfold Program.built
  cases hi : Try.prog.info? 73 with
  | none => rw [hi] at hz; cases hz
  | some it =>
    rw [hi] at hz
    obtain ⟨hz1, _⟩ : it.zero = some (.agg Z) ∧ it.size = 2041 := by simpa using hz
    rw [Try.underlying73] at hp ⊢
    simp only at hp ⊢
    rw [hp, hz1]
    simp [Instr.fill, Value.cells, hs]
def memBuild (ps : Array (Nat × Value)) : Sem Value := Instr.build 73 ps
@[go_sem ↓] theorem build_mem (ps : Array (Nat × Value)) : Instr.build 73 ps = memBuild ps := rfl
@[go_sem] theorem run_memBuild (w : World) (n : Nat) : (memBuild #[(1, .int .i64 (n : Int))]).run Try.prog w = .ok (.agg (zeroNv n).cells) w := run_build w _ _ _ (built_mem n)
@[go_sem] theorem cells_ne (s : Nv) : (s.cells = #[]) = False := by
  simp only [eq_iff_iff, iff_false]
  intro h
  have := s.cells_size
  rw [h] at this
  simp at this

/-- New where it may not be -/
theorem new_no (n : Int) (v : Value) (w : World) (hn : n < 1 ∨ 200 < n) : Calls Try.prog 22 #[.int .i64 n, v] w fun e w' => e = .returned (.pointer none) ∧ w = w' := by
  by_cases h1 : n < 1
  · go_enter Try.func22, Try.ntmps22
    go_wp2
    go_ret
    exact ⟨rfl, rfl⟩
  · have h2 : 200 < n := by omega
    go_enter Try.func22, Try.ntmps22
    go_wp2
    go_ret
    exact ⟨rfl, rfl⟩

/-- the k first lines told how long they last -/
def Nv.laid (n : Nat) (lim : List Int) (k : Nat) : Nv := { zeroNv n with la := fun i => if i < k then (if i < lim.length then lim.getD i 0 else -1) else 0 }
theorem laid_zero (n : Nat) (lim : List Int) : Nv.laid n lim 0 = zeroNv n := by simp [Nv.laid, zeroNv]
theorem laid_all (n : Nat) (lim : List Int) : Nv.laid n lim n = newNv n lim := rfl
theorem laid_some {n k : Nat} {lim : List Int} (h : k < lim.length) (x : Int) : ({ { Nv.laid n lim k with la := upd (Nv.laid n lim k).la k x } with la := upd (upd (Nv.laid n lim k).la k x) k (lim.getD k 0) } : Nv) = Nv.laid n lim (k + 1) := by
  simp only [Nv.laid, Nv.mk.injEq, true_and, and_true]
  funext i
  simp only [upd]
  by_cases e : i = k
  · subst e; simp [h]
  · rw [if_neg e, if_neg e]
    have h3 : i < k + 1 ↔ i < k := by omega
    simp only [h3]
theorem laid_none {n k : Nat} {lim : List Int} (h : ¬ k < lim.length) : ({ Nv.laid n lim k with la := upd (Nv.laid n lim k).la k (-1) } : Nv) = Nv.laid n lim (k + 1) := by
  simp only [Nv.laid, Nv.mk.injEq, true_and, and_true]
  funext i
  simp only [upd]
  by_cases e : i = k
  · subst e; simp [h]
  · rw [if_neg e]
    have h3 : i < k + 1 ↔ i < k := by omega
    simp only [h3]

theorem Nm.new (w : World) (s : Nv) : Nm (w.alloc (.cells s.cells 73)) w.heap.size s := heap_alloc_last w _

theorem new_yes (n : Nat) (v : Value) (lim : List Int) (w : World) (h1 : 1 ≤ n) (h2 : n ≤ 200) (hr : RI w v lim) :
    Calls Try.prog 22 #[.int .i64 n, v] w fun e w' => ∃ g, e = .returned (.pointer (some ⟨g, 0, none⟩)) ∧ w.heap.size ≤ g ∧ Nm w' g (newNv n lim) ∧ Below w.heap.size w w' := by
  have HN := Lib.hid ((Nm.new w (zeroNv n)).as (laid_zero n lim).symm)
  have HB := Lib.hid (bal (o := .cells (zeroNv n).cells 73) (Below.refl w.heap.size w))
  have i1 : (1 : Int) ≤ (n : Int) := by omega
  have i2 : (n : Int) ≤ 200 := by omega
  have HR := Lib.hid hr
  obtain ⟨p, cap, rfl, hlc, _, _⟩ := hr
  clear hlc
  go_enter Try.func22, Try.ntmps22
  go_wp2
  go_loopw [17] (fun i wr => ∃ k : Nat, k ≤ n ∧ i = .int .i64 k ∧ Hid (Nm wr w.heap.size (Nv.laid n lim k) ∧ Below w.heap.size w wr)) (fun i _ => n - (intOf i).toNat)
  case atStart => exact ⟨0, by omega, rfl, Lib.hid ⟨HN.out, HB.out⟩⟩
  case round =>
    obtain ⟨k, hk, rfl, H⟩ := hrel
    by_cases hlt : k < n
    · have h200 : k < 200 := by omega
      have j0 : (0 : Int) ≤ (k : Int) := by omega
      have j1 : (k : Int) < 200 := by omega
      have c9 := H.out.1.at_ (k := k * 10 + 9) (by omega)
      rw [Nv.val_la _ h200] at c9
      have z9 := H.out.1.free (k * 10 + 9)
      have N1 := Lib.hid (H.out.1.setLa h200 (-1))
      have B1 := Lib.hid (H.out.2.setCell (p := ⟨w.heap.size, k * 10 + 9, none⟩) (Nat.le_refl _) (.int .i64 (-1)))
      generalize (Nv.laid n lim k).la k = q at c9
      by_cases hl : k < lim.length
      · have R1 := ri_below HR.out (H.out.2)
        obtain ⟨b, off, rfl, hb, hc⟩ := ri_some HR.out (by omega)
        have ck := hc k hl
        have ck1 := ((H.out.2.setCell (p := ⟨w.heap.size, k * 10 + 9, none⟩) (Nat.le_refl _) (.int .i64 (-1))).cell (p := ⟨b, off + k, none⟩) hb).trans ck
        have N2 := Lib.hid ((N1.out.setLa h200 (lim.getD k 0)).as (laid_some hl (-1)))
        have B2 := Lib.hid (B1.out.setCell (p := ⟨w.heap.size, k * 10 + 9, none⟩) (Nat.le_refl _) (.int .i64 (lim.getD k 0)))
        generalize lim.getD k 0 = x at *
        obtain ⟨W, hW⟩ : ∃ W, wr.setCell ⟨w.heap.size, k * 10 + 9, none⟩ (.int .i64 (-1)) = W := ⟨_, rfl⟩
        rw [hW] at ck1 N1 N2 B2
        have d9 := N1.out.at_ (k := k * 10 + 9) (by omega)
        rw [Nv.val_la _ h200] at d9
        obtain ⟨q2, hq2⟩ : ∃ q2, ({ Nv.laid n lim k with la := upd (Nv.laid n lim k).la k (-1) } : Nv).la k = q2 := ⟨_, rfl⟩
        rw [hq2] at d9
        have y9 := N1.out.free (k * 10 + 9)
        clear hq2
        obtain ⟨L, hL⟩ : ∃ L, lim.length = L := ⟨_, rfl⟩
        rw [hL] at hl ⊢
        have j2 : (k : Int) < (L : Int) := by omega
        clear hc ck hL R1
        go_wp2
        go_region_law (fail)
        all_goals
          go_wp2
          exact ⟨⟨k + 1, by omega, by go_num, Lib.hid ⟨N2.out.drew, B2.out.drew⟩⟩, by simp [intOf]; omega⟩
      · have N2 := Lib.hid (N1.out.as (laid_none hl))
        have j2 : ¬ (k : Int) < (lim.length : Int) := by omega
        generalize lim.length = L at *
        go_wp2
        exact ⟨⟨k + 1, by omega, by go_num, Lib.hid ⟨N2.out, B1.out⟩⟩, by simp [intOf]; omega⟩
    · obtain rfl : k = n := by omega
      go_wp2
      go_ret
      exact ⟨_, rfl, Nat.le_refl _, H.out.1.as (laid_all _ lim), H.out.2⟩
end Go.Proofs.Ytjghhcbiaklomaa

/-
  Contracts of package nvm at known values; 'awake' of layer 5's statements.
-/
namespace Go.Proofs.Ytjghhcbiaklomaa
set_option maxRecDepth 100000
open Go.RowKit

/-- a call on a memory of one's own, seen from below -/
theorem Chg.own {g : Nat} {w w1 w2 : World} (hC : Chg [g] w1 w2) (hB : Below w.heap.size w w1) (hg : w.heap.size ≤ g) : Below w.heap.size w w2 :=
  hC.below hB hB.size fun k hk => by rw [List.mem_singleton.1 hk]; exact hg

section
variable {g : Nat} {s s' : Nv} {i : Int} {w : World}
theorem put_is {l : List Int} {x : Int} (hx : s.putE i = x) (hs : s.put i l = s') (hl : l.length = 8) (h : Nm w g s) (ho : s.Ok) (hc2 : s.c < 4611686018427387904) :
    Calls Try.prog 68 #[.pointer (some ⟨g, 0, none⟩), .int .i64 i, .agg (lc l)] w fun e w' => e = .returned (.int .i64 x) ∧ Nm w' g s' ∧ s'.Ok ∧ Chg [g] w w' := by
  have ho' := ho.put hl i
  refine (put_any g s i l w h ho hc2 hl).mono ?_
  rintro e w' ⟨rfl, hN, hC⟩
  rw [hx, hs] at *
  exact ⟨rfl, hN, ho', hC⟩
theorem set_is {v x : Int} (hx : s.setE i = x) (hs : s.set i v = s') (h : Nm w g s) (ho : s.Ok) (hc2 : s.c < 4611686018427387904) :
    Calls Try.prog 26 #[.pointer (some ⟨g, 0, none⟩), .int .i64 i, .int .u64 v] w fun e w' => e = .returned (.int .i64 x) ∧ Nm w' g s' ∧ s'.Ok ∧ Chg [g] w w' := by
  have ho' := ho.set i v
  refine (set_any g s i v w h ho hc2).mono ?_
  rintro e w' ⟨rfl, hN, hC⟩
  rw [hx, hs] at *
  exact ⟨rfl, hN, ho', hC⟩
theorem cut_is {n m : Int} (hs : s.cutAt n m = s') (h : Nm w g s) (ho : s.Ok) (hn : n ≤ 9223372036854775807) :
    Calls Try.prog 18 #[.pointer (some ⟨g, 0, none⟩), .int .i64 n, .int .i64 m] w fun e w' => e = .returned (.tuple #[]) ∧ Nm w' g s' ∧ s'.Ok ∧ Chg [g] w w' := by
  have ho' := ho.cutAt hn m
  refine (cut_any g s n m w h).mono ?_
  rintro e w' ⟨rfl, hN, hC⟩
  rw [hs] at *
  exact ⟨rfl, hN, ho', hC⟩
theorem power_is (hs : s.power = s') (h : Nm w g s) (ho : s.Ok) :
    Calls Try.prog 19 #[.pointer (some ⟨g, 0, none⟩)] w fun e w' => e = .returned (.tuple #[]) ∧ Nm w' g s' ∧ s'.Ok ∧ Chg [g] w w' := by
  have ho' := ho.power
  refine (power_any g s w h).mono ?_
  rintro e w' ⟨rfl, hN, hC⟩
  rw [hs] at *
  exact ⟨rfl, hN, ho', hC⟩
theorem get_is {l : List Int} {x : Int} (hl : s.get i = l) (hx : s.rdy (s.has i) = x) (h : Nm w g s) (ho : s.Ok) :
    Calls Try.prog 60 #[.pointer (some ⟨g, 0, none⟩), .int .i64 i] w fun e w' => e = .returned (.tuple #[.agg (lc l), .int .i64 x]) ∧ Below w.heap.size w w' := by
  rw [← hl, ← hx]; exact get_any g s i w h ho
theorem reg_is {v x : Int} (hl : s.rd i = v) (hx : s.rdy (hasR i) = x) (h : Nm w g s) :
    Calls Try.prog 44 #[.pointer (some ⟨g, 0, none⟩), .int .i64 i] w fun e w' => e = .returned (.tuple #[.int .u64 v, .int .i64 x]) ∧ w = w' := by
  rw [← hl, ← hx]; exact reg_any g s i w h
theorem writes_is {x : Int} (hx : s.c = x) (h : Nm w g s) :
    Calls Try.prog 27 #[.pointer (some ⟨g, 0, none⟩)] w fun e w' => e = .returned (.int .i64 x) ∧ w = w' := by
  rw [← hx]; exact writes_any g s w h
theorem down_is {b : Bool} (hx : s.dark = b) (h : Nm w g s) :
    Calls Try.prog 65 #[.pointer (some ⟨g, 0, none⟩)] w fun e w' => e = .returned (.bool b) ∧ w = w' := by
  rw [← hx]; exact down_any g s w h
end

theorem awake_plain : ∃ s1 s2 s3 : Nv, (newNv 3 [1]).put 0 [5, 0, 0, 0, 0, 0, 0, 0] = s1 ∧ (newNv 3 [1]).putE 0 = 0 ∧ s1.c < 4611686018427387904 ∧ s1.put 0 [6, 0, 0, 0, 0, 0, 0, 0] = s2 ∧ s1.putE 0 = 3 ∧ s2.c < 4611686018427387904 ∧
    s2.get 0 = [5, 0, 0, 0, 0, 0, 0, 0] ∧ s2.rdy (s2.has 0) = 0 ∧ s2.set 2 9 = s3 ∧ s2.setE 2 = 0 ∧ s3.rd 2 = 9 ∧ s3.rdy (hasR 2) = 0 ∧ s3.wear 0 = 1 ∧ s3.c = 3 :=
  ⟨_, _, _, rfl, by decide, by decide, rfl, by decide, by decide, by decide, by decide, rfl, by decide, by decide, by decide, by decide, by decide⟩

end Go.Proofs.Ytjghhcbiaklomaa

/-
  A line among a struct's cells: how it reads.
-/
namespace Go.Proofs.Ytjghhcbiaklomaa
set_option maxRecDepth 100000
open Go.ChangeShapes Go.WideShapes Go.ChangeAt Go.RowKit

theorem cells_i64 : Try.prog.cellsOf 3 = 1 := by kernel_rfl

theorem list8 {l : List Value} (h : l.length = 8) (f : Nat → Int) (hf : ∀ i, i < 8 → l[i]? = some (.int .u64 (f i))) : l = ((List.range 8).map f).map uv := by
  apply List.ext_getElem?
  intro i
  by_cases hi : i < 8
  · rw [hf i hi]; simp [hi, uv]
  · rw [List.getElem?_eq_none (by omega), List.getElem?_eq_none (by simp; omega)]

/-- a line's cells that read -/
theorem line_cells {H : Type} {enc : TypeId × Value → H} {W : World} {base n : Nat} {sp : Nat → Bool} {held : Bool} {cs : List Value} {y : DataW H × List MemPlace}
    (h : DataW.trod enc Try.prog W base sp held n 39 cs = some y) (hl8 : cs.length = 8) : ∃ l : List Int, cs = l.map uv ∧ l.length = 8 ∧ wfu l := by
  obtain ⟨xs, m, _, _, _, hl, hi⟩ := Go.DataW.trod_array Try.underlying39 h
  rw [cells_u64] at hi
  have pick : ∀ i, ∃ x : Int, i < 8 → cs[i]? = some (.int .u64 x) ∧ (Lit.int .u64 x).wf = true := by
    intro i
    by_cases h8 : i < 8
    · have hx := hi i h8
      rw [List.getElem?_eq_getElem (by omega : i < xs.length)] at hx
      obtain ⟨x, hc, _, hw⟩ := DataW.trod_int Try.underlying37 hx
      refine ⟨x, fun _ => ⟨?_, hw⟩⟩
      have := congrArg (·[0]?) hc
      simpa [Value.cells, List.getElem?_take, List.getElem?_drop] using this
    · exact ⟨0, fun h => absurd h h8⟩
  obtain ⟨f, hfp⟩ := Classical.axiomOfChoice pick
  refine ⟨(List.range 8).map f, list8 hl8 f fun i hi => (hfp i hi).1, by simp, ?_⟩
  intro n hn
  obtain ⟨i, hi', rfl⟩ := List.mem_map.1 hn
  exact (hfp i (by simpa using hi')).2
end Go.Proofs.Ytjghhcbiaklomaa

/-
  The memory, plainly: what stays behind each call; a memory whose power does not go.
-/
namespace Go.Proofs.Ytjghhcbiaklomaa
set_option maxRecDepth 100000
open Go.RowKit

theorem mix_whole : ∀ (a b : List Int), a.length = 8 → b.length = 8 → mix a b 255 = b := by
  intro a b ha hb
  refine list_ext (by rw [mix_length _ _ _ (by omega)]; omega) fun i hi => ?_
  rw [mix_length _ _ _ (by omega), ha] at hi
  rw [mix_at _ _ _ _ (by omega) (by omega), if_pos]
  have : ∀ j : Fin 8, (255 : Int) / 2 ^ j.val % 2 = 1 := by decide
  exact this ⟨i, hi⟩

/-- its power is there, and no cut will come -/
def Nv.calm (s : Nv) : Prop := s.dark = false ∧ s.comes = false
theorem Nv.calm.goes {s : Nv} (h : s.calm) : s.goes = false := by simp [Nv.goes, h.2]
theorem Nv.calm.tick {s : Nv} (h : s.calm) : s.tick = { s with c := s.c + 1 } := by
  obtain ⟨h1, h2⟩ := h
  simp [Nv.tick, Nv.goes, h1, h2]
theorem Nv.calm.by_ {s : Nv} (h : s.calm) : s.by_ = 255 := by simp [Nv.by_, h.goes]
theorem Nv.calm.told {s : Nv} (h : s.calm) : s.told = 0 := by simp [Nv.told, h.goes]
theorem Nv.calm.rdy {s : Nv} (h : s.calm) {b : Bool} (hb : b = true) : s.rdy b = 0 := by simp [Nv.rdy, hb, h.1]
theorem Nv.has_of {s : Nv} {k : Nat} (h : k < s.n) : s.has k = true := by simp [Nv.has]; omega
theorem Nv.calm.putE {s : Nv} (h : s.calm) {k : Nat} (hk : k < s.n) : s.putE k = if s.worn k then 3 else 0 := by
  simp [Nv.putE, h.rdy (Nv.has_of hk), h.goes, h.told]
theorem Nv.calm.put {s : Nv} (h : s.calm) (ho : s.Ok) {k : Nat} (hk : k < s.n) {l : List Int} (hl : l.length = 8) :
    s.put k l = if s.worn k then { s with c := s.c + 1 } else { s with c := s.c + 1, wr := upd s.wr k (s.wr k + 1), h := upd s.h k l } := by
  simp only [Nv.put, h.rdy (Nv.has_of hk), h.tick, h.by_, if_true, Int.toNat_natCast, Nv.lay, mix_whole _ _ (ho.line k) hl]

theorem Nv.put_n (s : Nv) (i : Int) (l : List Int) : (s.put i l).n = s.n := by unfold Nv.put; split <;> (try split) <;> rfl
theorem Nv.put_la (s : Nv) (i : Int) (l : List Int) : (s.put i l).la = s.la := by unfold Nv.put; split <;> (try split) <;> rfl
theorem Nv.put_rg (s : Nv) (i : Int) (l : List Int) : (s.put i l).rg = s.rg := by unfold Nv.put; split <;> (try split) <;> rfl
theorem Nv.put_c (s : Nv) (i : Int) (l : List Int) : (s.put i l).c ≤ s.c + 1 := by
  unfold Nv.put; split
  · split <;> exact Int.le_refl _
  · omega
theorem Nv.put_comes (s : Nv) (i : Int) (l : List Int) : (s.put i l).comes = s.comes := by unfold Nv.put; split <;> (try split) <;> rfl
theorem Nv.put_h (s : Nv) (i : Int) (l : List Int) {k : Nat} (hk : i ≠ k) : (s.put i l).h k = s.h k := by
  unfold Nv.put; split
  · rename_i hr
    split
    · rfl
    · have h0 := (rdy_zero hr).1
      simp only [Nv.has, Bool.and_eq_true, decide_eq_true_eq] at h0
      exact upd_other _ _ (by omega)
  · rfl
theorem Nv.put_wr (s : Nv) (i : Int) (l : List Int) {k : Nat} (hk : i ≠ k) : (s.put i l).wr k = s.wr k := by
  unfold Nv.put; split
  · rename_i hr
    split
    · rfl
    · have h0 := (rdy_zero hr).1
      simp only [Nv.has, Bool.and_eq_true, decide_eq_true_eq] at h0
      exact upd_other _ _ (by omega)
  · rfl
theorem Nv.calm.put_ {s : Nv} (h : s.calm) (i : Int) (l : List Int) : (s.put i l).calm := by
  have h2 := s.put_comes i l
  refine ⟨?_, h2.trans h.2⟩
  unfold Nv.put; split
  · split
    · show (s.dark || s.goes) = false; simp [h.1, h.goes]
    · show (s.dark || s.goes) = false; simp [h.1, h.goes]
  · exact h.1
theorem Nv.set_n (s : Nv) (i v : Int) : (s.set i v).n = s.n := by unfold Nv.set; split <;> (try split) <;> rfl
theorem Nv.set_la (s : Nv) (i v : Int) : (s.set i v).la = s.la := by unfold Nv.set; split <;> (try split) <;> rfl
theorem Nv.set_h (s : Nv) (i v : Int) : (s.set i v).h = s.h := by unfold Nv.set; split <;> (try split) <;> rfl
theorem Nv.set_wr (s : Nv) (i v : Int) : (s.set i v).wr = s.wr := by unfold Nv.set; split <;> (try split) <;> rfl
theorem Nv.set_comes (s : Nv) (i v : Int) : (s.set i v).comes = s.comes := by unfold Nv.set; split <;> (try split) <;> rfl
theorem Nv.set_c (s : Nv) (i v : Int) : (s.set i v).c ≤ s.c + 1 := by
  unfold Nv.set; split
  · split <;> exact Int.le_refl _
  · omega
theorem Nv.set_rg (s : Nv) (i v : Int) {k : Nat} (hk : i ≠ k) : (s.set i v).rg k = s.rg k := by
  unfold Nv.set; split
  · rename_i hr
    split
    · obtain ⟨j, e, _⟩ := hasR_nat (rdy_zero hr).1
      exact upd_other _ _ (by omega)
    · rfl
  · rfl
theorem Nv.calm.set_ {s : Nv} (h : s.calm) (i v : Int) : (s.set i v).calm := by
  have h2 := s.set_comes i v
  refine ⟨?_, h2.trans h.2⟩
  unfold Nv.set; split
  · split
    · show (s.dark || s.goes) = false; simp [h.1, h.goes]
    · show (s.dark || s.goes) = false; simp [h.1, h.goes]
  · exact h.1
theorem Nv.calm.setE {s : Nv} (h : s.calm) {k : Nat} (hk : k < 35) : s.setE k = 0 := by
  have hb : hasR (k : Int) = true := by simp [hasR]; omega
  simp [Nv.setE, h.rdy hb, h.told]
theorem Nv.calm.set {s : Nv} (h : s.calm) {k : Nat} (hk : k < 35) (v : Int) : s.set k v = { s with c := s.c + 1, rg := upd s.rg k v } := by
  have hb : hasR (k : Int) = true := by simp [hasR]; omega
  simp [Nv.set, h.rdy hb, h.by_, h.tick, Nv.reg]
theorem newNv_calm (n : Nat) (lim : List Int) : (newNv n lim).calm := ⟨rfl, rfl⟩
theorem Nv.put_live {s : Nv} (hd : s.dark = false) {k : Nat} (hk : k < s.n) (hw : s.worn k = false) (l : List Int) : s.put k l = s.tick.lay k l s.by_ ∧ s.putE k = s.told := by
  have hr : s.rdy (s.has k) = 0 := by simp [Nv.rdy, Nv.has_of hk, hd]
  simp [Nv.put, Nv.putE, hr, hw]
theorem Nv.put_dark {s : Nv} (hd : s.dark = true) (i : Int) (l : List Int) : s.put i l = s := by
  unfold Nv.put Nv.rdy
  cases s.has i <;> simp [hd]
theorem Nv.putE_dark {s : Nv} (hd : s.dark = true) {k : Nat} (hk : k < s.n) : s.putE k = 2 := by
  simp [Nv.putE, Nv.rdy, Nv.has_of hk, hd]
theorem Nv.set_dark {s : Nv} (hd : s.dark = true) (i v : Int) : s.set i v = s := by
  unfold Nv.set Nv.rdy
  cases hasR i <;> simp [hd]
theorem Nv.setE_dark {s : Nv} (hd : s.dark = true) {k : Nat} (hk : k < 35) : s.setE k = 2 := by
  have hb : hasR (k : Int) = true := by simp [hasR]; omega
  simp [Nv.setE, Nv.rdy, hb, hd]
end Go.Proofs.Ytjghhcbiaklomaa
