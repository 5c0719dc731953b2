/-
  A judge in a block: what lies there, and what stays when other things change.
-/
import Derived.Test.YtkpefnjohdjejaaJgp
namespace Go.Proofs.Ytkpefnjohdjejaa
set_option maxRecDepth 100000
open Go.ChangeShapes Go.WideShapes Go.ChangeAt Go.RowKit

theorem Far.wide {w w' : World} {D D' : List Nat} {v : Value} (h : Far w D v) (hs : w.heap.size ≤ w'.heap.size) (hD : ∀ k ∈ D', k ∈ D ∨ w.heap.size ≤ k) : Far w' D' v := fun k hk => ⟨Nat.lt_of_lt_of_le (h k hk).1 hs, fun q => by
  rcases hD k q with q | q
  · exact (h k hk).2 q
  · have := (h k hk).1; omega⟩
theorem Mo.wide {w w' : World} {D D' E : List Nat} {g : Nat} {wl : List Int} {l : List Bk} {r : Int} (h : Mo w D g wl l r) (hc : Chg E w w') (hE : ∀ k ∈ E, k ∈ D) (hg : g ∉ E) (h1 : ∀ k ∈ D, k ∈ D') (h2 : ∀ k ∈ D', k ∈ D ∨ w.heap.size ≤ k) (h3 : ∀ k ∈ D', k < w'.heap.size) : Mo w' D' g wl l r := by
  obtain ⟨v, us, q1, q2, q3, q4, q5⟩ := h.rows
  refine ⟨h.hB, h.ok, h1 _ h.gD, h3, v, us, hc.whole q1 hg, ra_chg q2 hc (fun k hk q => (q3 k hk).2 (hE k q)), q3.wide hc.size h2, ⟨q4.map, fun x hx => ?_⟩, q5⟩
  obtain ⟨g1, g2, g3⟩ := q4.ws x hx
  exact ⟨g1, ru_chg g2 hc (fun k hk q => (g3 k hk).2 (hE k q)), g3.wide hc.size h2⟩
theorem Rm.wide {w w' : World} {D D' E : List Nat} {g : Nat} {wl : List Int} {l : List Bk} {r : Int} (h : Rm w D g wl l r) (hc : Chg E w w') (hE : ∀ k ∈ E, k ∈ D) (hg : g ∉ E) (h1 : ∀ k ∈ D, k ∈ D') (h2 : ∀ k ∈ D', k ∈ D ∨ w.heap.size ≤ k) (h3 : ∀ k ∈ D', k < w'.heap.size) : Rm w' D' g wl l r := by
  obtain ⟨v, q1, q2, q3⟩ := h.rows
  exact ⟨h.hB, h.ok, h1 _ h.gD, h3, v, hc.whole q1 hg, ru_chg q2 hc (fun k hk q => (q3 k hk).2 (hE k q)), q3.wide hc.size h2⟩

/-- block j holds a judge, its model lies in block g (THE LAYOUT IS THE PROGRAM'S) -/
structure Jo (w : World) (D : List Nat) (j g : Nat) (s : Js) : Prop where
  top : Whole w j 55 #[.pointer (some ⟨g, 0, none⟩), .bool s.w]
  m : Mo w D g s.wl s.l s.r
  jD : j ∈ D
  ne : j ≠ g
/-- the same of the reference's -/
structure Ro (w : World) (D : List Nat) (j g : Nat) (s : Js) : Prop where
  top : Whole w j 30 #[.pointer (some ⟨g, 0, none⟩), .bool s.w]
  m : Rm w D g s.wl s.l s.r
  jD : j ∈ D
  ne : j ≠ g
theorem jw_size (p q : Value) : (#[p, q] : Array Value).size = 2 := rfl
section
variable {w w' : World} {D D' E : List Nat} {j g : Nat} {s : Js}
theorem Jo.c0 (h : Jo w D j g s) : w.cell? ⟨j, 0, none⟩ = some (.pointer (some ⟨g, 0, none⟩)) := Whole.at_ h.top 0
theorem Jo.c1 (h : Jo w D j g s) : w.cell? ⟨j, 1, none⟩ = some (.bool s.w) := Whole.at_ h.top 1
theorem Jo.f (h : Jo w D j g s) (i : Nat) : w.frozen? ⟨j, i, none⟩ = false := Whole.free h.top i
theorem Ro.c0 (h : Ro w D j g s) : w.cell? ⟨j, 0, none⟩ = some (.pointer (some ⟨g, 0, none⟩)) := Whole.at_ h.top 0
theorem Ro.c1 (h : Ro w D j g s) : w.cell? ⟨j, 1, none⟩ = some (.bool s.w) := Whole.at_ h.top 1
theorem Ro.f (h : Ro w D j g s) (i : Nat) : w.frozen? ⟨j, i, none⟩ = false := Whole.free h.top i
theorem Jo.below (h : Jo w D j g s) (hb : Below w.heap.size w w') : Jo w' D j g s := ⟨(hb.block j h.top.lt).trans h.top, h.m.below hb, h.jD, h.ne⟩
theorem Ro.below (h : Ro w D j g s) (hb : Below w.heap.size w w') : Ro w' D j g s := ⟨(hb.block j h.top.lt).trans h.top, h.m.below hb, h.jD, h.ne⟩
theorem Jo.wide (h : Jo w D j g s) (hc : Chg E w w') (hE : ∀ k ∈ E, k ∈ D) (hg : g ∉ E) (hj : j ∉ E) (h1 : ∀ k ∈ D, k ∈ D') (h2 : ∀ k ∈ D', k ∈ D ∨ w.heap.size ≤ k) (h3 : ∀ k ∈ D', k < w'.heap.size) : Jo w' D' j g s :=
  ⟨hc.whole h.top hj, h.m.wide hc hE hg h1 h2 h3, h1 _ h.jD, h.ne⟩
theorem Ro.wide (h : Ro w D j g s) (hc : Chg E w w') (hE : ∀ k ∈ E, k ∈ D) (hg : g ∉ E) (hj : j ∉ E) (h1 : ∀ k ∈ D, k ∈ D') (h2 : ∀ k ∈ D', k ∈ D ∨ w.heap.size ≤ k) (h3 : ∀ k ∈ D', k < w'.heap.size) : Ro w' D' j g s :=
  ⟨hc.whole h.top hj, h.m.wide hc hE hg h1 h2 h3, h1 _ h.jD, h.ne⟩
/-- it is worn from now on -/
theorem Jo.wear (h : Jo w D j g s) (b : Bool) : Jo (w.setCell ⟨j, 1, none⟩ (.bool b)) D j g { s with w := b } ∧ Chg [j] w (w.setCell ⟨j, 1, none⟩ (.bool b)) := by
  have hc : Chg [j] w (w.setCell ⟨j, 1, none⟩ (.bool b)) := (Chg.refl [j] w).setCell (p := ⟨j, 1, none⟩) (.inl (List.mem_singleton.2 rfl)) _
  exact ⟨⟨h.top.set_ 1 _, h.m.chg hc (fun k hk => by rw [List.mem_singleton.1 hk]; exact h.jD) (fun q => h.ne (List.mem_singleton.1 q).symm), h.jD, h.ne⟩, hc⟩
theorem Ro.wear (h : Ro w D j g s) (b : Bool) : Ro (w.setCell ⟨j, 1, none⟩ (.bool b)) D j g { s with w := b } ∧ Chg [j] w (w.setCell ⟨j, 1, none⟩ (.bool b)) := by
  have hc : Chg [j] w (w.setCell ⟨j, 1, none⟩ (.bool b)) := (Chg.refl [j] w).setCell (p := ⟨j, 1, none⟩) (.inl (List.mem_singleton.2 rfl)) _
  exact ⟨⟨h.top.set_ 1 _, h.m.chg hc (fun k hk => by rw [List.mem_singleton.1 hk]; exact h.jD) (fun q => h.ne (List.mem_singleton.1 q).symm), h.jD, h.ne⟩, hc⟩
/-- another model goes along -/
theorem Jo.next (h : Jo w D j g s) {x : Nat} {s2 : Js} (hx : Mo w D x s2.wl s2.l s2.r) (hne : j ≠ x) (hw : s2.w = s.w) : Jo (w.setCell ⟨j, 0, none⟩ (.pointer (some ⟨x, 0, none⟩))) D j x s2 ∧ Chg [j] w (w.setCell ⟨j, 0, none⟩ (.pointer (some ⟨x, 0, none⟩))) := by
  have hc : Chg [j] w (w.setCell ⟨j, 0, none⟩ (.pointer (some ⟨x, 0, none⟩))) := (Chg.refl [j] w).setCell (p := ⟨j, 0, none⟩) (.inl (List.mem_singleton.2 rfl)) _
  refine ⟨⟨?_, hx.chg hc (fun k hk => by rw [List.mem_singleton.1 hk]; exact h.jD) (fun q => hne (List.mem_singleton.1 q).symm), h.jD, hne⟩, hc⟩
  rw [hw]
  exact h.top.set_ 0 _
theorem Ro.next (h : Ro w D j g s) {x : Nat} {s2 : Js} (hx : Rm w D x s2.wl s2.l s2.r) (hne : j ≠ x) (hw : s2.w = s.w) : Ro (w.setCell ⟨j, 0, none⟩ (.pointer (some ⟨x, 0, none⟩))) D j x s2 ∧ Chg [j] w (w.setCell ⟨j, 0, none⟩ (.pointer (some ⟨x, 0, none⟩))) := by
  have hc : Chg [j] w (w.setCell ⟨j, 0, none⟩ (.pointer (some ⟨x, 0, none⟩))) := (Chg.refl [j] w).setCell (p := ⟨j, 0, none⟩) (.inl (List.mem_singleton.2 rfl)) _
  refine ⟨⟨?_, hx.chg hc (fun k hk => by rw [List.mem_singleton.1 hk]; exact h.jD) (fun q => hne (List.mem_singleton.1 q).symm), h.jD, hne⟩, hc⟩
  rw [hw]
  exact h.top.set_ 0 _
end
/-- the blocks that none of the rows is in, grown by some that are new -/
structure Grow (w w' : World) (D D' : List Nat) : Prop where
  sub : ∀ k ∈ D, k ∈ D'
  new : ∀ k ∈ D', k ∈ D ∨ w.heap.size ≤ k
theorem Grow.refl (w w' : World) (D : List Nat) : Grow w w' D D := ⟨fun _ h => h, fun _ h => .inl h⟩
theorem Grow.one {w w' : World} {D : List Nat} {x : Nat} (hx : w.heap.size ≤ x) : Grow w w' D (x :: D) := ⟨fun _ h => List.mem_cons_of_mem _ h, fun k h => by
  rcases List.mem_cons.1 h with rfl | h
  · exact .inr hx
  · exact .inl h⟩
/-- what a judge tells of an answer, and is then -/
def JOut (w w' : World) (D : List Nat) (j g : Nat) (P : Bool → Js → Prop) (e : Ending) : Prop :=
  ∃ b s' g' D', e = .returned (.bool b) ∧ P b s' ∧ Jo w' D' j g' s' ∧ Chg [j, g] w w' ∧ Grow w w' D D' ∧ (g' = g ∨ w.heap.size ≤ g')
def ROut3 (w w' : World) (D : List Nat) (j g : Nat) (P : Bool → Js → Prop) (e : Ending) : Prop :=
  ∃ b s' g' D', e = .returned (.bool b) ∧ P b s' ∧ Ro w' D' j g' s' ∧ Chg [j] w w' ∧ Grow w w' D D' ∧ (g' = g ∨ w.heap.size ≤ g')
end Go.Proofs.Ytkpefnjohdjejaa
