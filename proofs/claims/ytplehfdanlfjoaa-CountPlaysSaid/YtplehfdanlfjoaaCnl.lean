/-
  Counts of pages, plainly; a Count that lies in two blocks.
-/
import Derived.Test.YtplehfdanlfjoaaTbl
import Derived.Test.YtplehfdanlfjoaaRi
namespace Go.Proofs.Ytplehfdanlfjoaa
open Go.ChangeShapes Go.WideShapes Go.ChangeAt Go.RowKit

/-- batch, pages, the counts, what was kept of them -/
structure Ct where
  b : Nat
  n : Nat
  c : Nat → Nat
  k : Nat → Nat
/-- a number put in one place -/
def at1 (f : Nat → Nat) (p x : Nat) : Nat → Nat := fun q => if q = p then x else f q
def Ct.lag (s : Ct) (p : Nat) : Nat := s.c p - s.k p
def Ct.due (s : Ct) (p : Nat) : Bool := decide (s.b ≤ s.c p + 1 - s.k p)
def Ct.up (s : Ct) (p : Nat) : Ct := { s with c := at1 s.c p (s.c p + 1) }
def Ct.kept (s : Ct) (p : Nat) : Ct := { s with k := at1 s.k p (s.c p) }
def Ct.note (s : Ct) (p : Nat) : Ct := if s.due p then (s.up p).kept p else s.up p
/-- what lies in the j-th cell of its row -/
def Ct.f (s : Ct) (j : Nat) : Value := .int .i64 ((if j % 2 = 0 then s.c (j / 2) else s.k (j / 2) : Nat) : Int)
theorem Ct.f0 (s : Ct) (p : Nat) : s.f (p * 2) = .int .i64 (s.c p : Int) := by
  unfold Ct.f; rw [if_pos (by omega), show p * 2 / 2 = p by omega]
theorem Ct.f1 (s : Ct) (p : Nat) : s.f (p * 2 + 1) = .int .i64 (s.k p : Int) := by
  unfold Ct.f; rw [if_neg (by omega), show (p * 2 + 1) / 2 = p by omega]
/-- what may be: no more than 2^62 writes, none of a page less than what was kept of it -/
structure Ct.Ok (s : Ct) : Prop where
  b : 1 ≤ s.b
  b2 : s.b ≤ 100
  n : s.n ≤ 16
  le : ∀ p, p < s.n → s.k p ≤ s.c p
  lag : ∀ p, p < s.n → s.c p < s.k p + s.b
theorem Ct.Ok.up_kept {s : Ct} (h : s.Ok) {p : Nat} : ((s.up p).kept p).Ok := by
  refine ⟨h.b, h.b2, h.n, fun q hq => ?_, fun q hq => ?_⟩
  · show at1 s.k p (at1 s.c p (s.c p + 1) p) q ≤ at1 s.c p (s.c p + 1) q
    unfold at1
    by_cases e : q = p
    · subst e; simp
    · rw [if_neg e, if_neg e]; exact h.le q hq
  · show at1 s.c p (s.c p + 1) q < at1 s.k p (at1 s.c p (s.c p + 1) p) q + s.b
    have := h.b
    unfold at1
    by_cases e : q = p
    · subst e; simp; omega
    · rw [if_neg e, if_neg e]; exact h.lag q hq
theorem Ct.Ok.note {s : Ct} (h : s.Ok) {p : Nat} (hp : p < s.n) : (s.note p).Ok := by
  unfold Ct.note
  by_cases d : s.due p = true
  · rw [if_pos d]; exact h.up_kept
  · rw [if_neg d]
    simp only [Ct.due, decide_eq_true_eq] at d
    refine ⟨h.b, h.b2, h.n, fun q hq => ?_, fun q hq => ?_⟩
    · show s.k q ≤ at1 s.c p (s.c p + 1) q
      unfold at1
      by_cases e : q = p
      · subst e; rw [if_pos rfl]; have := h.le q hq; omega
      · rw [if_neg e]; exact h.le q hq
    · show at1 s.c p (s.c p + 1) q < s.k q + s.b
      unfold at1
      by_cases e : q = p
      · subst e; rw [if_pos rfl]; have := h.le q hq; omega
      · rw [if_neg e]; exact h.lag q hq

/-- a Count at block x, its pages at block g -/
structure Cq (w : World) (x g : Nat) (s : Ct) : Prop where
  ne : x ≠ g
  top : Whole w x 38 #[.int .i64 (s.b : Int), .slice (some ⟨g, 0, none⟩) s.n s.n]
  row : Whole w g 40 (tab (s.n * 2) s.f)
theorem Cq.ltx {w : World} {x g : Nat} {s : Ct} (h : Cq w x g s) : x < w.heap.size := h.top.lt
theorem Cq.ltg {w : World} {x g : Nat} {s : Ct} (h : Cq w x g s) : g < w.heap.size := h.row.lt
theorem Cq.of_heap {w w' : World} {x g : Nat} {s : Ct} (h : Cq w x g s) (hx : w'.heap[x]? = w.heap[x]?) (hg : w'.heap[g]? = w.heap[g]?) : Cq w' x g s := ⟨h.ne, hx.trans h.top, hg.trans h.row⟩
theorem Cq.below {w w' : World} {x g : Nat} {s : Ct} (h : Cq w x g s) (hb : Below w.heap.size w w') : Cq w' x g s := h.of_heap (hb.block x h.ltx) (hb.block g h.ltg)
theorem Cq.chg {D : List Nat} {w w' : World} {x g : Nat} {s : Ct} (h : Cq w x g s) (hc : Chg D w w') (hx : x ∉ D) (hg : g ∉ D) : Cq w' x g s := h.of_heap (hc.block x h.ltx hx) (hc.block g h.ltg hg)
theorem Cq.alloc {w : World} {x g : Nat} {s : Ct} (h : Cq w x g s) (o : Obj) : Cq (w.alloc o) x g s := ⟨h.ne, h.top.alloc o, h.row.alloc o⟩
theorem Cq.drew {w : World} {x g : Nat} {s : Ct} (h : Cq w x g s) : Cq w.drew x g s := h.of_heap rfl rfl
theorem Cq.c0 {w : World} {x g : Nat} {s : Ct} (h : Cq w x g s) : w.cell? ⟨x, 0, none⟩ = some (.int .i64 (s.b : Int)) := h.top.at_ 0
theorem Cq.c1 {w : World} {x g : Nat} {s : Ct} (h : Cq w x g s) : w.cell? ⟨x, 1, none⟩ = some (.slice (some ⟨g, 0, none⟩) s.n s.n) := h.top.at_ 1
theorem Cq.p0 {w : World} {x g : Nat} {s : Ct} (h : Cq w x g s) {p : Nat} (hp : p < s.n) : w.cell? ⟨g, p * 2, none⟩ = some (.int .i64 (s.c p : Int)) := by
  rw [h.row.cellAt (k := p * 2) (by omega), s.f0]
theorem Cq.p1 {w : World} {x g : Nat} {s : Ct} (h : Cq w x g s) {p : Nat} (hp : p < s.n) : w.cell? ⟨g, p * 2 + 1, none⟩ = some (.int .i64 (s.k p : Int)) := by
  rw [h.row.cellAt (k := p * 2 + 1) (by omega), s.f1]
theorem Cq.free {w : World} {x g : Nat} {s : Ct} (h : Cq w x g s) (i : Nat) : w.frozen? ⟨g, i, none⟩ = false := h.row.free i
theorem Cq.setc {w : World} {x g : Nat} {s : Ct} (h : Cq w x g s) {p : Nat} (hp : p < s.n) (a : Nat) : Cq (w.setCell ⟨g, p * 2, none⟩ (.int .i64 (a : Int))) x g { s with c := at1 s.c p a } := by
  refine ⟨h.ne, h.top.other (p := ⟨g, p * 2, none⟩) h.ne _, h.row.tab1 (p * 2) _ (by omega) fun j hj => ?_⟩
  by_cases e : j = p * 2
  · subst e; rw [if_pos rfl, Ct.f0]; simp [at1]
  · rw [if_neg e]
    unfold Ct.f
    by_cases o : j % 2 = 0
    · rw [if_pos o, if_pos o]
      show Value.int .i64 ((at1 s.c p a (j / 2) : Nat) : Int) = _
      unfold at1; rw [if_neg (by omega)]
    · rw [if_neg o, if_neg o]
theorem Cq.setk {w : World} {x g : Nat} {s : Ct} (h : Cq w x g s) {p : Nat} (hp : p < s.n) (a : Nat) : Cq (w.setCell ⟨g, p * 2 + 1, none⟩ (.int .i64 (a : Int))) x g { s with k := at1 s.k p a } := by
  refine ⟨h.ne, h.top.other (p := ⟨g, p * 2 + 1, none⟩) h.ne _, h.row.tab1 (p * 2 + 1) _ (by omega) fun j hj => ?_⟩
  by_cases e : j = p * 2 + 1
  · subst e; rw [if_pos rfl, Ct.f1]; simp [at1]
  · rw [if_neg e]
    unfold Ct.f
    by_cases o : j % 2 = 0
    · rw [if_pos o, if_pos o]
    · rw [if_neg o, if_neg o]
      show Value.int .i64 ((at1 s.k p a (j / 2) : Nat) : Int) = _
      unfold at1; rw [if_neg (by omega)]
theorem Cq.up {w : World} {x g : Nat} {s : Ct} (h : Cq w x g s) {p : Nat} (hp : p < s.n) : Cq (w.setCell ⟨g, p * 2, none⟩ (.int .i64 ((s.c p + 1 : Nat) : Int))) x g (s.up p) := h.setc hp _
theorem Cq.kept {w : World} {x g : Nat} {s : Ct} (h : Cq w x g s) {p : Nat} (hp : p < s.n) : Cq (w.setCell ⟨g, p * 2 + 1, none⟩ (.int .i64 (s.c p : Int))) x g (s.kept p) := h.setk hp _
theorem Cq.as {w : World} {x g : Nat} {s s' : Ct} (h : Cq w x g s) (e : s = s') : Cq w x g s' := e ▸ h
end Go.Proofs.Ytplehfdanlfjoaa
