/-
  Operations in slices of a call's own, their bytes elsewhere: how they read, how they are made and appended; parts of slices of bytes.
-/
import Derived.Test.YtdnijdbhdlengaaOpl
import Derived.Test.YtdnijdbhdlengaaOps
import Derived.Test.YtdnijdbhdlengaaCdp
import Derived.Lib.BufferMore
namespace Go.Proofs.Ytdnijdbhdlengaa
set_option maxRecDepth 100000
open Go.ChangeShapes Go.WideShapes Go.ChangeAt Go.RowKit

/-- it without its bytes' place -/
def toC (x : Px) : Cx := ⟨x.d, x.o, x.nn, x.msk, x.bl⟩
structure Px.Wi (x : Px) : Prop where
  wd : (Lit.int .i64 x.d).wf = true
  wo : (Lit.int .i64 x.o).wf = true
  wn : (Lit.int .i64 x.nn).wf = true
  wm : (Lit.int .i64 x.msk).wf = true
  one : x.v.oneCell' = true
def opF : Elm Try.prog Px where
  t := 23
  e := 26
  size := 5
  bytes := 56
  z := .agg #[.int .i64 0, .int .i64 0, .int .i64 0, .int .i64 0, .slice none 0 0]
  enc := Px.cells
  ok := Px.Wi
  ht := Try.underlying23
  hi := by kernel_rfl
  hzs := rfl
  pos := by decide
  bpos := by decide
  len := fun _ _ => rfl
  one := fun a ha u hu => by
    simp only [Px.cells, List.mem_cons, List.not_mem_nil, or_false] at hu
    rcases hu with rfl | rfl | rfl | rfl | rfl
    · rfl
    · rfl
    · rfl
    · rfl
    · exact ha.one
/-- the bytes of operations -/
def OpD (w : World) (l : List Px) : Prop := ∀ x ∈ l, RA byE w x.v x.bl
theorem OpD.below {w w' : World} {l : List Px} (h : OpD w l) (hb : Below w.heap.size w w') : OpD w' l := fun x hx => ra_below (h x hx) hb
theorem OpD.app {w : World} {l r : List Px} (h : OpD w l) (h' : OpD w r) : OpD w (l ++ r) := fun x hx => (List.mem_append.1 hx).elim (h x) (h' x)
theorem OpD.one {w : World} {x : Px} (h : RA byE w x.v x.bl) : OpD w [x] := fun y hy => by rw [List.mem_singleton.1 hy]; exact h
/-- operations that can be read -/
def RO (w : World) (v : Value) (l : List Px) : Prop := RA opF w v l ∧ OpD w l
theorem RO.below {w w' : World} {v : Value} {l : List Px} (h : RO w v l) (hb : Below w.heap.size w w') : RO w' v l := ⟨ra_below h.1 hb, h.2.below hb⟩
theorem RO.shape {w : World} {v : Value} {l : List Px} (h : RO w v l) : ∃ p c, v = .slice p l.length c ∧ l.length ≤ c ∧ c ≤ maxLen := ra_shape h.1
/-- that came in -/
theorem ro_in {W : World} {v : Value} {l : List Px} (h : RA (opE W) W v l) : RO W v l := by
  obtain ⟨p, c, rfl, h1, h2, h3, h4⟩ := h
  exact ⟨⟨p, c, rfl, h1, h2, fun x hx => ⟨(h3 x hx).wd, (h3 x hx).wo, (h3 x hx).wn, (h3 x hx).wm, (h3 x hx).one⟩, h4⟩, fun x hx => (h3 x hx).rv⟩
theorem px_in {W : World} {x : Px} (h : x.Wf W) : x.Wi := ⟨h.wd, h.wo, h.wn, h.wm, h.one⟩
/-- the k-th -/
theorem ro_at {w : World} {p : Option Addr} {n cap : Nat} {l : List Px} (h : RO w (.slice p n cap) l) (h0 : 0 < l.length) :
    ∃ b off, p = some ⟨b, off, none⟩ ∧ b < w.heap.size ∧ ∀ k, k < l.length → (pxLoad (.pointer (some ⟨b, off + k * 5, none⟩))).run Try.prog w = .ok (.agg (pxc (l.getD k default))) w ∧ w.cell? ⟨b, off + k * 5, none⟩ = some (.int .i64 (l.getD k default).d) ∧ w.cell? ⟨b, off + k * 5 + 2, none⟩ = some (.int .i64 (l.getD k default).nn) ∧ w.cell? ⟨b, off + k * 5 + 4, none⟩ = some (l.getD k default).v ∧ (l.getD k default).Wi ∧ RA byE w (l.getD k default).v (l.getD k default).bl := by
  obtain ⟨b, off, e, hb, hr⟩ := ra_at h.1 h0
  refine ⟨b, off, e, hb, fun k hk => ?_⟩
  have hk2 := hr k hk
  exact ⟨run_pxLoad hk2, hk2 0 _ rfl, hk2 2 _ rfl, hk2 4 _ rfl, (ra_ok h.1).at_ hk, h.2 _ (by rw [List.getD_eq_getElem?_getD, List.getElem?_eq_getElem hk]; exact List.getElem_mem hk)⟩
theorem RO.take {w : World} {p : Option Addr} {n cap : Nat} {l : List Px} (h : RO w (.slice p n cap) l) (k : Nat) : RO w (.slice p (min k l.length) cap) (l.take k) := ⟨ra_take h.1 k, fun x hx => h.2 x (List.mem_of_mem_take hx)⟩
/-- of a call's own: the row, each one's bytes, apart from the row -/
structure OO (B : Nat) (w : World) (v : Value) (l : List Px) : Prop where
  row : OwnA opF B w v l
  data : ∀ x ∈ l, OwnA byE B w x.v x.bl
  apt : ∀ x ∈ l, x.v.ownBlock = none ∨ x.v.ownBlock ≠ v.ownBlock
theorem OO.ro {B : Nat} {w : World} {v : Value} {l : List Px} (h : OO B w v l) : RO w v l := ⟨h.row.ra, fun x hx => (h.data x hx).ra⟩
theorem OO.below {B : Nat} {w w' : World} {v : Value} {l : List Px} (h : OO B w v l) (hb : Below w.heap.size w w') : OO B w' v l := ⟨h.row.below hb, fun x hx => (h.data x hx).below hb, h.apt⟩
theorem OO.nil (B : Nat) (w : World) : OO B w (.slice none 0 0) [] := ⟨own_nil_a _ _ _, (fun _ h => nomatch h), fun _ h => nomatch h⟩
theorem OO.snoc {B : Nat} {w w' : World} {v v' : Value} {l : List Px} {x : Px} (h : OO B w v l) (hx : OwnA byE B w x.v x.bl) (hxv : x.v.ownBlock = none ∨ x.v.ownBlock ≠ v.ownBlock) (ho : OwnA opF B w' v' (l ++ [x])) (hg : w.grownBy w' v.ownBlock)
    (hv : v'.ownBlock = v.ownBlock ∨ v'.ownBlock = some w.heap.size) : OO B w' v' (l ++ [x]) := by
  have key : ∀ y : Px, OwnA byE B w y.v y.bl → (y.v.ownBlock = none ∨ y.v.ownBlock ≠ v.ownBlock) → OwnA byE B w' y.v y.bl ∧ (y.v.ownBlock = none ∨ y.v.ownBlock ≠ v'.ownBlock) := fun y hy ha => by
    refine ⟨hy.kept hg ha, ?_⟩
    rcases hv with e | e
    · rw [e]; exact ha
    · rw [e]
      cases hb : y.v.ownBlock with
      | none => exact .inl rfl
      | some g => have := (hy.lt g hb).2; exact .inr (fun e => by cases e; omega)
  have all : ∀ y ∈ l ++ [x], OwnA byE B w' y.v y.bl ∧ (y.v.ownBlock = none ∨ y.v.ownBlock ≠ v'.ownBlock) := fun y hy => by
    rcases List.mem_append.1 hy with hy | hy
    · exact key y (h.data y hy) (h.apt y hy)
    · rw [List.mem_singleton.1 hy]; exact key x hx hxv
  exact ⟨ho, fun y hy => (all y hy).1, fun y hy => (all y hy).2⟩

theorem built_ops1 (w : World) (d o n m : Int) (p : Option Addr) (k c : Nat) : (Instr.buildSlice 23 1 #[(0, .agg #[.int .i64 d, .int .i64 o, .int .i64 n, .int .i64 m, .slice p k c])]).run Try.prog w = .ok (.slice (some ⟨w.heap.size, 0, none⟩) 1 1) (w.alloc (.cells #[.int .i64 d, .int .i64 o, .int .i64 n, .int .i64 m, .slice p k c] 26)) := by
  simp [Instr.buildSlice, run_underlying Try.underlying23, Instr.fill, go_sem]
def opSlice (n : Nat) (ps : Array (Nat × Value)) : Sem Value := Instr.buildSlice 23 n ps
@[go_sem ↓] theorem slice_op (n : Nat) (ps : Array (Nat × Value)) : Instr.buildSlice 23 n ps = opSlice n ps := rfl
theorem run_opSlice1 (w : World) (x : Px) (h : RA byE w x.v x.bl) : (opSlice 1 #[(0, .agg (pxc x))]).run Try.prog w = .ok (.slice (some ⟨w.heap.size, 0, none⟩) 1 1) (w.alloc (.cells (pxc x) 26)) := by
  obtain ⟨p, c, hv, _⟩ := ra_shape h
  have := built_ops1 w x.d x.o x.nn x.msk p x.bl.length c
  rw [← hv] at this
  exact this
theorem op_one (w : World) {x : Px} (h : x.Wi) : OwnA opF w.heap.size (w.alloc (.cells (pxc x) 26)) (.slice (some ⟨w.heap.size, 0, none⟩) 1 1) [x] := by
  have := own_lit_a opF w (l := [x]) (fun y hy => by rw [List.mem_singleton.1 hy]; exact h) (by unfold maxLen; simp)
  simpa [opF, pxc] using this
section
variable {ops : Array Oper} {rest : List Oper} {o : Oper} {a : Act} {w : World} {Q : Exit → Act → World → Prop} {K : Act → World → Prop}
/-- append -/
theorem app_op (hgd : o.guard = none) (s x : Operand) (ho : o.op = .call { callee := .builtin .append, args := #[s, x], argTypes := #[23, 23] }) (B : Nat) (v : Value) (l : List Px) (hs : a.eval s = v) (hown : OwnA opF B w v l)
    (u : Value) (r : List Px) (hx : a.eval x = u) (hr : RA opF w u r) (hlen : Hid (l.length + r.length ≤ 1000000)) (hB : B ≤ w.heap.size)
    (h : ∀ v' w', OwnA opF B w' v' (l ++ r) → w.grownBy w' v.ownBlock → (v'.ownBlock = v.ownBlock ∨ v'.ownBlock = some w.heap.size) → wpList Try.prog ops Q rest (a.put o.dst v') w') : wpList Try.prog ops Q (o :: rest) a w :=
  list_app opF hgd s x ho B v l hs hown u r hx hr (by have := hlen.out; show _ * 56 ≤ _; omega) hB h
/-- append, of more bytes than app_by's -/
theorem app_bys (hgd : o.guard = none) (s x : Operand) (ho : o.op = .call { callee := .builtin .append, args := #[s, x], argTypes := #[22, 22] }) (B : Nat) (v : Value) (l : List Int) (hs : a.eval s = v) (hown : OwnA byE B w v l)
    (u : Value) (r : List Int) (hx : a.eval x = u) (hr : RA byE w u r) (hlen : Hid (l.length + r.length ≤ 140737488355328)) (hB : B ≤ w.heap.size)
    (h : ∀ v' w', OwnA byE B w' v' (l ++ r) → w.grownBy w' v.ownBlock → (v'.ownBlock = v.ownBlock ∨ v'.ownBlock = some w.heap.size) → wpList Try.prog ops Q rest (a.put o.dst v') w') : wpList Try.prog ops Q (o :: rest) a w :=
  list_app byE hgd s x ho B v l hs hown u r hx hr (by have := hlen.out; show _ * 1 ≤ _; omega) hB h
end

/-- a part of bytes: from one on, up to one -/
def byFrom (v lo : Value) : Sem Value := Instr.sliceAt 22 v (some lo) none none
def byTo (v hi : Value) : Sem Value := Instr.sliceAt 22 v none (some hi) none
@[go_sem ↓] theorem slice_by_from (v lo : Value) : Instr.sliceAt 22 v (some lo) none none = byFrom v lo := rfl
@[go_sem ↓] theorem slice_by_to (v hi : Value) : Instr.sliceAt 22 v none (some hi) none = byTo v hi := rfl
theorem size_by_el (w : World) : (sizeOf (Try.prog.elem 22)).run Try.prog w = .ok 1 w := by simp [sizeOf, typeInfo, go_sem]; kernel_rfl
theorem by_from (p : Option Addr) (c : Nat) (l : List Int) {k : Nat} (hk : k ≤ l.length) (hc : l.length ≤ c) (hm : c ≤ maxLen) {a : Int} (ha : a = k) :
    ∃ q d, (∀ w' : World, (byFrom (.slice p l.length c) (.int .i64 a)).run Try.prog w' = .ok (.slice q (l.length - k) d) w') ∧ ∀ w, RA byE w (.slice p l.length c) l → RA byE w (.slice q (l.length - k) d) (l.drop k) := by
  subst ha
  have hrun : ∀ w' : World, (byFrom (.slice p l.length c) (.int .i64 (k : Int))).run Try.prog w' = .ok (.slice (if c = k then p else p.map (·.add (k * 1))) (l.length - k) (c - k)) w' := fun w' => by
    unfold byFrom
    rw [run_sliceAt_slice w' _ _ _ _ _ Try.underlying22, run_slice_l w' _ _ _ _ Try.underlying22 _ _ (by omega) (by omega), size_by_el]
    simp [Result.andThen, sliced]
  refine ⟨_, _, hrun, fun w h => ?_⟩
  obtain ⟨p', c', e, _, _, hok, hr⟩ := id h
  cases e
  by_cases hkl : k < l.length
  · rw [if_neg (by omega)]
    rcases hr with rfl | ⟨b, off, rfl, hb, hr⟩
    · simp at hkl
    · have := ra_drop h hkl
      have e : (⟨b, off, none⟩ : Addr).add (k * 1) = ⟨b, off + k * byE.size, none⟩ := Go.WideShapes.add_plain ..
      rw [Option.map_some, e]
      exact this
  · rw [List.drop_eq_nil_of_le (by omega), show l.length - k = 0 by omega]
    exact ⟨_, _, rfl, Nat.zero_le _, Nat.le_trans (Nat.sub_le _ _) hm, (fun _ h => by cases h), .inl rfl⟩
theorem by_to (p : Option Addr) (c : Nat) (l : List Int) {k : Nat} (hk : k ≤ l.length) (hc : l.length ≤ c) {a : Int} (ha : a = k) :
    (∀ w' : World, (byTo (.slice p l.length c) (.int .i64 a)).run Try.prog w' = .ok (.slice p k c) w') ∧ ∀ w, RA byE w (.slice p l.length c) l → RA byE w (.slice p k c) (l.take k) := by
  subst ha
  refine ⟨fun w' => ?_, fun w h => ?_⟩
  · unfold byTo
    rw [run_sliceAt_slice w' _ _ _ _ _ Try.underlying22, run_slice_h w' _ _ _ _ Try.underlying22 _ _ (by omega) (by omega), size_by_el]
    cases p <;> simp [Result.andThen, sliced, Addr.add_zero']
  · have := ra_take h k
    rwa [Nat.min_eq_left hk] at this
end Go.Proofs.Ytdnijdbhdlengaa
