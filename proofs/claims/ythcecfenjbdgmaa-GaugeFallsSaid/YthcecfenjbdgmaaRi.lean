/-
  Slices of ints: how they read, how they came in, those of a call's own; append onto them. (The part of Mem and App that is about ints.)
-/
import Derived.Test.YthcecfenjbdgmaaBlk
import Derived.Deep.Draws
import Derived.Deep.OwnRows
import Derived.Maps.AppendAt
import Derived.Deep.Slices
import Derived.Deep.Fields
import Derived.Handy
import Derived.OwnWalk
namespace Go.Proofs.Ythcecfenjbdgmaa
set_option maxRecDepth 100000
open Go.ChangeShapes Go.WideShapes Go.ChangeAt Go.RowKit

def iv (x : Int) : Value := .int .i64 x
/-- a slice of ints that can be read: it holds l -/
def RI (w : World) (v : Value) (l : List Int) : Prop :=
  ∃ p cap, v = .slice p l.length cap ∧ l.length ≤ cap ∧ cap ≤ maxLen ∧ (l = [] ∨ ∃ b off, p = some ⟨b, off, none⟩ ∧ ∀ i, i < l.length → w.cell? ⟨b, off + i, none⟩ = some (.int .i64 (l.getD i 0)))
theorem ri_same {w w' : World} {v : Value} {l : List Int} (h : RI w v l) (hb : ∀ p : Addr, p.block < w.heap.size → w'.cell? p = w.cell? p) : RI w' v l := by
  obtain ⟨p, cap, rfl, h1, h2, h | ⟨b, off, rfl, hc⟩⟩ := h
  · exact ⟨p, cap, rfl, h1, h2, .inl h⟩
  · refine ⟨_, cap, rfl, h1, h2, .inr ⟨b, off, rfl, fun i hi => ?_⟩⟩
    have := hc i hi
    rw [hb _ (World.block_lt_of_cell? w _ this)]; exact this
theorem ri_below {w w' : World} {v : Value} {l : List Int} (h : RI w v l) (hb : Below w.heap.size w w') : RI w' v l := ri_same h fun _ hp => hb.cell hp
theorem ri_in {w : World} {v : Value} {l : List Int} (h : IntsIn .i64 w v l) : RI w v l := by
  obtain ⟨p, cap, rfl, h1, h2, _, ⟨rfl, _⟩ | ⟨b, off, rfl, _, hc⟩⟩ := h
  · exact ⟨p, cap, rfl, h1, h2, .inl rfl⟩
  · exact ⟨_, cap, rfl, h1, h2, .inr ⟨b, off, rfl, hc⟩⟩
theorem in_wf {w : World} {v : Value} {l : List Int} (h : IntsIn .i64 w v l) : ∀ n ∈ l, (Lit.int .i64 n).wf = true := by
  obtain ⟨p, cap, rfl, h1, h2, h3, _⟩ := h; exact h3
theorem ri_nil (w : World) : RI w (.slice none 0 0) [] := ⟨none, 0, rfl, Nat.le_refl _, Nat.zero_le _, .inl rfl⟩
theorem ri_some {w : World} {p : Option Addr} {n cap : Nat} {l : List Int} (h : RI w (.slice p n cap) l) (h0 : 0 < l.length) : ∃ b off, p = some ⟨b, off, none⟩ ∧ b < w.heap.size ∧ ∀ i, i < l.length → w.cell? ⟨b, off + i, none⟩ = some (.int .i64 (l.getD i 0)) := by
  obtain ⟨p', cap', e, _, _, h | ⟨b, off, rfl, hc⟩⟩ := h
  · subst h; cases h0
  · cases e; exact ⟨b, off, rfl, World.block_lt_of_cell? w _ (hc 0 h0), hc⟩
/-- a slice of ints of a call's own -/
def OwnI (B : Nat) (w : World) (v : Value) (l : List Int) : Prop := w.ownsRow B 3 1 v l.length (l.map iv)
theorem OwnI.ri {B : Nat} {w : World} {v : Value} {l : List Int} (h : OwnI B w v l) : RI w v l := by
  have h' : w.ownsRow B 3 1 v l.length (l.map iv) := h
  obtain ⟨_, ⟨rfl, h0⟩ | ⟨g, cap, cur, rfl, _, _, h1, h2, _⟩⟩ := h
  · rw [List.eq_nil_of_length_eq_zero h0]; exact ri_nil w
  · refine ⟨_, cap, rfl, h1, h2, .inr ⟨g, 0, rfl, fun i hi => ?_⟩⟩
    have := h'.cells (g := g) rfl i (iv (l.getD i 0)) (by simp [hi])
    have e : (⟨g, 0, none⟩ : Addr).add i = ⟨g, 0 + i, none⟩ := Go.WideShapes.add_plain ..
    rw [e] at this; exact this
theorem OwnI.shape {B : Nat} {w : World} {v : Value} {l : List Int} (h : OwnI B w v l) : ∃ p c, v = .slice p l.length c := by
  obtain ⟨p, c, h, _⟩ := h.ri; exact ⟨p, c, h⟩
theorem OwnI.mono {B B' : Nat} {w : World} {v : Value} {l : List Int} (h : OwnI B w v l) (hb : B' ≤ B) : OwnI B' w v l :=
  ⟨h.1, h.2.imp id fun ⟨g, cap, cur, hv, hg, r⟩ => ⟨g, cap, cur, hv, Nat.le_trans hb hg, r⟩⟩
theorem OwnI.far {B : Nat} {w : World} {v : Value} {l : List Int} (h : OwnI B w v l) {p : Addr} (hp : p.block < B) (u : Value) : OwnI B (w.setCell p u) v l := ownsRow_setCell_below h hp u
theorem info_int : (Try.prog.info? 3).map (fun i => (i.zero, i.size, i.bytes)) = some (some (.int .i64 0), 1, 8) := by kernel_rfl
theorem cells_int : Try.prog.cellsOf 3 = 1 := by kernel_rfl

theorem iv_one (l : List Int) : ∀ u ∈ l.map iv, u.oneCell' = true := by
  intro u hu; obtain ⟨x, _, rfl⟩ := List.mem_map.1 hu; rfl
/-- nothing behind it -/
theorem run_app_none {P : Program} (w : World) (base : Nat) (t ty e : TypeId) (i : TypeInfo) (size : Nat) (ht : P.underlying t = some (.slice e)) (hi : P.info? e = some i)
    (v : Value) (n : Nat) (xs : List Value) (hown : w.ownsRow base e size v n xs) (c : Nat) : (Builtin.append_ #[t, t] ty #[v, .slice none 0 c]).run P w = .ok v w := by
  obtain ⟨_, ⟨rfl, rfl⟩ | ⟨g, cap, cur, rfl, _, _, hc, _⟩⟩ := hown <;> simp [Builtin.append_, run_underlying ht, sizeOf, typeInfo, Builtin.lenOf, Builtin.firstCells, storeCells, *]
theorem run_app_int (B : Nat) (v : Value) (l : List Int) (w : World) (hown : OwnI B w v l) (u : Value) (r : List Int) (hr : RI w u r) (hlen : l.length + r.length ≤ 1000000) (hB : B ≤ w.heap.size) (ty : TypeId) :
    ∃ v' w', (Builtin.append_ #[22, 22] ty #[v, u]).run Try.prog w = .ok v' w' ∧ OwnI B w' v' (l ++ r) ∧ w.grownBy w' v.ownBlock ∧ (v'.ownBlock = v.ownBlock ∨ v'.ownBlock = some w.heap.size) := by
  obtain ⟨i0, hi, hz0, hz1, hz2⟩ := info_parts info_int
  obtain ⟨A, c, rfl, h1, h2, h3⟩ := hr
  have fin : ∀ w' v', w'.ownsRow B 3 1 v' (l.length + r.length) (l.map iv ++ r.map iv) → OwnI B w' v' (l ++ r) := fun w' v' h => by
    unfold OwnI; rw [List.length_append, List.map_append]; exact h
  cases A with
  | none =>
    have hr0 : r = [] := by
      rcases h3 with h3 | ⟨b, off, h, _⟩
      · exact h3
      · cases h
    subst hr0
    exact ⟨v, w, run_app_none w B _ ty _ i0 1 Try.underlying22 hi v _ _ hown c, by simpa using hown, World.grownBy.refl w _, .inl rfl⟩
  | some ad =>
    have hc : ∀ j u, (r.map iv)[j]? = some u → w.cell? (ad.add j) = some u := by
      intro j u hu
      rcases h3 with h3 | ⟨b, off, h, hc⟩
      · subst h3; simp at hu
      · cases h
        have hj : j < r.length := by have := (List.getElem?_eq_some_iff.1 hu).1; simpa using this
        have e : (⟨b, off, none⟩ : Addr).add j = ⟨b, off + j, none⟩ := Go.WideShapes.add_plain ..
        rw [e, hc j hj]
        simp [hj] at hu
        rw [← hu]; simp [iv, hj]
    obtain ⟨v', w', hrun, g1, g2, _, g4⟩ := run_append_own_at (P := Try.prog) w B 22 ty 3 i0 (.int .i64 0) 1 8 Try.underlying22 hi hz0 hz1 hz2 rfl (by decide) v l.length (l.map iv) hown ad r.length c (r.map iv) (by simp) hc (iv_one r) (by unfold maxLen; omega) (by omega) hB
    exact ⟨v', w', hrun, fin _ _ g1, g2, g4⟩
section
variable {ops : Array Oper} {rest : List Oper} {o : Oper} {a : Act} {w : World} {Q : Exit → Act → World → Prop} {K : Act → World → Prop}
theorem wp_app_int (s x : Operand) (ho : o.op = .call { callee := .builtin .append, args := #[s, x], argTypes := #[22, 22] }) (B : Nat) (v : Value) (l : List Int) (hs : a.eval s = v) (hown : OwnI B w v l)
    (u : Value) (r : List Int) (hx : a.eval x = u) (hr : RI w u r) (hlen : l.length + r.length ≤ 1000000) (hB : B ≤ w.heap.size)
    (h : ∀ v' w', OwnI B w' v' (l ++ r) → w.grownBy w' v.ownBlock → (v'.ownBlock = v.ownBlock ∨ v'.ownBlock = some w.heap.size) → K (a.put o.dst v') w') : o.wp Try.prog a w K Q := by
  obtain ⟨v', w', hrun, h2, h3, h4⟩ := run_app_int B v l w hown u r hr hlen hB o.type
  unfold Oper.wp execOp
  simp only [ho, resolve, invoke, builtin, Sem.run_bind, Sem.run_pure, Result.andThen_ok, List.map_toArray, List.map_cons, List.map_nil, hs, hx, hrun]
  exact h v' w' h2 h3 h4
theorem list_app_int (hgd : o.guard = none) (s x : Operand) (ho : o.op = .call { callee := .builtin .append, args := #[s, x], argTypes := #[22, 22] }) (B : Nat) (v : Value) (l : List Int) (hs : a.eval s = v) (hown : OwnI B w v l)
    (u : Value) (r : List Int) (hx : a.eval x = u) (hr : RI w u r) (hlen : l.length + r.length ≤ 1000000) (hB : B ≤ w.heap.size)
    (h : ∀ v' w', OwnI B w' v' (l ++ r) → w.grownBy w' v.ownBlock → (v'.ownBlock = v.ownBlock ∨ v'.ownBlock = some w.heap.size) → wpList Try.prog ops Q rest (a.put o.dst v') w') : wpList Try.prog ops Q (o :: rest) a w :=
  wpList_plain hgd fun _ hK => wp_app_int s x ho B v l hs hown u r hx hr hlen hB fun v' w' h2 h3 h4 => hK _ _ (h v' w' h2 h3 h4)
theorem step_app_int {E : Prop} (hgd : o.guard = none) (s x : Operand) (ho : o.op = .call { callee := .builtin .append, args := #[s, x], argTypes := #[22, 22] }) (B : Nat) (v : Value) (l : List Int) (hs : a.eval s = v) (hown : OwnI B w v l)
    (u : Value) (r : List Int) (hx : a.eval x = u) (hr : RI w u r) (hlen : l.length + r.length ≤ 1000000) (hB : B ≤ w.heap.size)
    (h : ∀ v' w', OwnI B w' v' (l ++ r) → w.grownBy w' v.ownBlock → (v'.ownBlock = v.ownBlock ∨ v'.ownBlock = some w.heap.size) → K (a.put o.dst v') w') : if Region.wanted o (yielded ops a.tmps) = true then o.wp Try.prog a w K Q else E := by
  rw [if_pos (by simp [Region.wanted, hgd])]
  exact wp_app_int s x ho B v l hs hown u r hx hr hlen hB h
end
theorem own_lit (w : World) (l : List Int) (hl : l.length ≤ maxLen) : OwnI w.heap.size (w.alloc (.cells (l.map iv).toArray 3)) (.slice (some ⟨w.heap.size, 0, none⟩) l.length l.length) l := by
  have h := World.ownsRow_lit (e := 3) (size := 1) (base := w.heap.size) w (l.map iv).toArray l.length (Nat.le_refl _) hl (by simp)
  simpa [OwnI] using h
theorem ri_one (w : World) (x : Int) : RI (w.alloc (.cells #[.int .i64 x] 3)) (.slice (some ⟨w.heap.size, 0, none⟩) 1 1) [x] := (own_lit w [x] (by unfold maxLen; simp)).ri
end Go.Proofs.Ythcecfenjbdgmaa
