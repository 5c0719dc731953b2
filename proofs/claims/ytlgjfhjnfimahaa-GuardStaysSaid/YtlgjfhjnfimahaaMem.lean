/-
  Slices of ints and of steps: how they read, how they came in, those of a call's own; blocks that are known whole.
-/
import Derived.Test.YtlgjfhjnfimahaaLaw
import Derived.Deep.Draws
import Derived.Deep.OwnRows
import Derived.Maps.AppendAt
import Derived.Deep.Slices
import Derived.Deep.Fields
import Derived.Handy
namespace Go.Proofs.Ytlgjfhjnfimahaa
open Go.ChangeShapes Go.WideShapes Go.ChangeAt Go.RowKit

def iv (x : Int) : Value := .int .i64 x
def fl (l : List (Int × Int)) : List Value := l.flatMap fun p => [iv p.1, iv p.2]
theorem fl_length (l : List (Int × Int)) : (fl l).length = l.length * 2 := by induction l with
  | nil => rfl
  | cons a l ih => simp only [fl, List.flatMap_cons, List.length_append, List.length_cons, List.length_nil] at ih ⊢; omega
theorem fl_append (a b : List (Int × Int)) : fl (a ++ b) = fl a ++ fl b := by simp [fl]
theorem fl_at (l : List (Int × Int)) : ∀ i, i < l.length → (fl l)[i * 2]? = some (iv (l.getD i (0, 0)).1) ∧ (fl l)[i * 2 + 1]? = some (iv (l.getD i (0, 0)).2) := by
  induction l with
  | nil => intro i h; simp at h
  | cons a l ih =>
    intro i h
    cases i with
    | zero => exact ⟨rfl, rfl⟩
    | succ i =>
      have := ih i (by simpa using h)
      have e : fl (a :: l) = iv a.1 :: iv a.2 :: fl l := rfl
      rw [e, show (i + 1) * 2 = i * 2 + 1 + 1 by omega]
      simpa using this

/-- a slice of ints that can be read: it holds l -/
def RI (w : World) (v : Value) (l : List Int) : Prop :=
  ∃ p cap, v = .slice p l.length cap ∧ l.length ≤ cap ∧ cap ≤ maxLen ∧ (l = [] ∨ ∃ b off, p = some ⟨b, off, none⟩ ∧ ∀ i, i < l.length → w.cell? ⟨b, off + i, none⟩ = some (.int .i64 (l.getD i 0)))
/-- a slice of steps that can be read -/
def RL (w : World) (v : Value) (l : List (Int × Int)) : Prop :=
  ∃ p cap, v = .slice p l.length cap ∧ l.length ≤ cap ∧ cap ≤ maxLen ∧ (l = [] ∨ ∃ b off, p = some ⟨b, off, none⟩ ∧
    ∀ i, i < l.length → w.cell? ⟨b, off + i * 2, none⟩ = some (.int .i64 (l.getD i (0, 0)).1) ∧ w.cell? ⟨b, off + (i * 2 + 1), none⟩ = some (.int .i64 (l.getD i (0, 0)).2))

theorem ri_same {w w' : World} {v : Value} {l : List Int} (h : RI w v l) (hb : ∀ p : Addr, p.block < w.heap.size → w'.cell? p = w.cell? p) : RI w' v l := by
  obtain ⟨p, cap, rfl, h1, h2, h | ⟨b, off, rfl, hc⟩⟩ := h
  · exact ⟨p, cap, rfl, h1, h2, .inl h⟩
  · refine ⟨_, cap, rfl, h1, h2, .inr ⟨b, off, rfl, fun i hi => ?_⟩⟩
    have := hc i hi
    rw [hb _ (World.block_lt_of_cell? w _ this)]; exact this
theorem rl_same {w w' : World} {v : Value} {l : List (Int × Int)} (h : RL w v l) (hb : ∀ p : Addr, p.block < w.heap.size → w'.cell? p = w.cell? p) : RL w' v l := by
  obtain ⟨p, cap, rfl, h1, h2, h | ⟨b, off, rfl, hc⟩⟩ := h
  · exact ⟨p, cap, rfl, h1, h2, .inl h⟩
  · refine ⟨_, cap, rfl, h1, h2, .inr ⟨b, off, rfl, fun i hi => ?_⟩⟩
    obtain ⟨x, y⟩ := hc i hi
    rw [hb _ (World.block_lt_of_cell? w _ x), hb _ (World.block_lt_of_cell? w _ y)]; exact ⟨x, y⟩
theorem ri_below {w w' : World} {v : Value} {l : List Int} (h : RI w v l) (hb : Below w.heap.size w w') : RI w' v l := ri_same h fun _ hp => hb.cell hp
theorem rl_below {w w' : World} {v : Value} {l : List (Int × Int)} (h : RL w v l) (hb : Below w.heap.size w w') : RL w' v l := rl_same h fun _ hp => hb.cell hp
theorem ri_in {w : World} {v : Value} {l : List Int} (h : IntsIn .i64 w v l) : RI w v l := by
  obtain ⟨p, cap, rfl, h1, h2, _, ⟨rfl, _⟩ | ⟨b, off, rfl, _, hc⟩⟩ := h
  · exact ⟨p, cap, rfl, h1, h2, .inl rfl⟩
  · exact ⟨_, cap, rfl, h1, h2, .inr ⟨b, off, rfl, hc⟩⟩
theorem in_wf {w : World} {v : Value} {l : List Int} (h : IntsIn .i64 w v l) : ∀ n ∈ l, (Lit.int .i64 n).wf = true := by
  obtain ⟨p, cap, rfl, h1, h2, h3, _⟩ := h; exact h3
theorem ri_nil (w : World) : RI w (.slice none 0 0) [] := ⟨none, 0, rfl, Nat.le_refl _, Nat.zero_le _, .inl rfl⟩
theorem rl_nil (w : World) : RL w (.slice none 0 0) [] := ⟨none, 0, rfl, Nat.le_refl _, Nat.zero_le _, .inl rfl⟩
theorem ri_some {w : World} {p : Option Addr} {n cap : Nat} {l : List Int} (h : RI w (.slice p n cap) l) (h0 : 0 < l.length) : ∃ b off, p = some ⟨b, off, none⟩ ∧ b < w.heap.size ∧ ∀ i, i < l.length → w.cell? ⟨b, off + i, none⟩ = some (.int .i64 (l.getD i 0)) := by
  obtain ⟨p', cap', e, _, _, h | ⟨b, off, rfl, hc⟩⟩ := h
  · subst h; cases h0
  · cases e; exact ⟨b, off, rfl, World.block_lt_of_cell? w _ (hc 0 h0), hc⟩

/-- a slice of ints of a call's own -/
def OwnI (B : Nat) (w : World) (v : Value) (l : List Int) : Prop := w.ownsRow B 3 1 v l.length (l.map iv)
/-- a slice of steps of a call's own -/
def OwnL (B : Nat) (w : World) (v : Value) (l : List (Int × Int)) : Prop := w.ownsRow B 37 2 v l.length (fl l)

theorem OwnI.ri {B : Nat} {w : World} {v : Value} {l : List Int} (h : OwnI B w v l) : RI w v l := by
  have h' : w.ownsRow B 3 1 v l.length (l.map iv) := h
  obtain ⟨_, ⟨rfl, h0⟩ | ⟨g, cap, cur, rfl, _, _, h1, h2, _⟩⟩ := h
  · rw [List.eq_nil_of_length_eq_zero h0]; exact ri_nil w
  · refine ⟨_, cap, rfl, h1, h2, .inr ⟨g, 0, rfl, fun i hi => ?_⟩⟩
    have := h'.cells (g := g) rfl i (iv (l.getD i 0)) (by simp [hi])
    have e : (⟨g, 0, none⟩ : Addr).add i = ⟨g, 0 + i, none⟩ := Go.WideShapes.add_plain ..
    rw [e] at this; exact this
theorem OwnL.rl {B : Nat} {w : World} {v : Value} {l : List (Int × Int)} (h : OwnL B w v l) : RL w v l := by
  have h' : w.ownsRow B 37 2 v l.length (fl l) := h
  obtain ⟨_, ⟨rfl, h0⟩ | ⟨g, cap, cur, rfl, _, _, h1, h2, _⟩⟩ := h
  · rw [List.eq_nil_of_length_eq_zero h0]; exact rl_nil w
  · refine ⟨_, cap, rfl, h1, h2, .inr ⟨g, 0, rfl, fun i hi => ?_⟩⟩
    obtain ⟨x, y⟩ := fl_at l i hi
    have e : ∀ j, (⟨g, 0, none⟩ : Addr).add j = ⟨g, 0 + j, none⟩ := fun j => Go.WideShapes.add_plain ..
    have hx := h'.cells (g := g) rfl _ _ x
    have hy := h'.cells (g := g) rfl _ _ y
    rw [e] at hx hy; exact ⟨hx, hy⟩

theorem OwnI.shape {B : Nat} {w : World} {v : Value} {l : List Int} (h : OwnI B w v l) : ∃ p c, v = .slice p l.length c := by
  obtain ⟨p, c, h, _⟩ := h.ri; exact ⟨p, c, h⟩
theorem OwnL.shape {B : Nat} {w : World} {v : Value} {l : List (Int × Int)} (h : OwnL B w v l) : ∃ p c, v = .slice p l.length c := by
  obtain ⟨p, c, h, _⟩ := h.rl; exact ⟨p, c, h⟩

theorem OwnI.mono {B B' : Nat} {w : World} {v : Value} {l : List Int} (h : OwnI B w v l) (hb : B' ≤ B) : OwnI B' w v l :=
  ⟨h.1, h.2.imp id fun ⟨g, cap, cur, hv, hg, r⟩ => ⟨g, cap, cur, hv, Nat.le_trans hb hg, r⟩⟩
theorem OwnI.far {B : Nat} {w : World} {v : Value} {l : List Int} (h : OwnI B w v l) {p : Addr} (hp : p.block < B) (u : Value) : OwnI B (w.setCell p u) v l := ownsRow_setCell_below h hp u

/-- v[:k] -/
theorem OwnI.upto {B : Nat} {w : World} {p : Option Addr} {n c k : Nat} {l : List Int} (h : OwnI B w (.slice p n c) l) (hk : k ≤ l.length) : OwnI B w (.slice p k c) (l.take k) := by
  have hl : (l.take k).length = k := by rw [List.length_take]; omega
  unfold OwnI at h ⊢
  rw [hl]
  refine ⟨by simp; omega, ?_⟩
  rcases h.2 with ⟨hv, h0⟩ | ⟨g, cap, cur, hv, hb, hg, h1, h2, h3, h4⟩
  · obtain ⟨rfl, rfl, rfl⟩ : p = none ∧ n = 0 ∧ c = 0 := by cases hv; exact ⟨rfl, rfl, rfl⟩
    exact .inl ⟨by rw [show k = 0 by omega], by omega⟩
  · obtain ⟨rfl, rfl, rfl⟩ : p = some ⟨g, 0, none⟩ ∧ n = l.length ∧ c = cap := by cases hv; exact ⟨rfl, rfl, rfl⟩
    refine .inr ⟨g, c, cur, rfl, hb, hg, by omega, h2, h3, ?_⟩
    rw [List.map_take, ← h4, List.take_take]
    congr 1; omega

theorem info_int : (Try.prog.info? 3).map (fun i => (i.zero, i.size, i.bytes)) = some (some (.int .i64 0), 1, 8) := by kernel_rfl
theorem info_instr : (Try.prog.info? 37).map (fun i => (i.zero, i.size, i.bytes)) = some (some (.agg #[.int .i64 0, .int .i64 0]), 2, 16) := by kernel_rfl
theorem cells_int : Try.prog.cellsOf 3 = 1 := by kernel_rfl
theorem cells_instr : Try.prog.cellsOf 37 = 2 := by kernel_rfl

/-- a block that is known whole -/
def Whole (w : World) (g : Nat) (t : TypeId) (cs : Array Value) : Prop := w.heap[g]? = some (.cells cs t (0, 0))
theorem Whole.lt {w : World} {g : Nat} {t : TypeId} {cs : Array Value} (h : Whole w g t cs) : g < w.heap.size := (Array.getElem?_eq_some_iff.1 h).1
theorem Whole.at_ {w : World} {g : Nat} {t : TypeId} {cs : Array Value} (h : Whole w g t cs) (i : Nat) : w.cell? ⟨g, i, none⟩ = cs[i]? := cell_of_row w g i cs t (0, 0) h
theorem Whole.free {w : World} {g : Nat} {t : TypeId} {cs : Array Value} (h : Whole w g t cs) (i : Nat) : w.frozen? ⟨g, i, none⟩ = false := by
  have e : w.heap[g]? = some (.cells cs t (0, 0)) := h
  simp [World.frozen?, e]
theorem Whole.set_ {w : World} {g : Nat} {t : TypeId} {cs : Array Value} (h : Whole w g t cs) (i : Nat) (u : Value) : Whole (w.setCell ⟨g, i, none⟩ u) g t (cs.setIfInBounds i u) := by
  have e : w.heap[g]? = some (.cells cs t (0, 0)) := h
  unfold Whole
  simp [World.setCell, Array.getElem?_modify, e]
theorem Whole.grown {w w' : World} {g : Nat} {t : TypeId} {cs : Array Value} (h : Whole w g t cs) {row : Option Nat} (hg : w.grownBy w' row) (hne : some g ≠ row) : Whole w' g t cs := (hg.block g h.lt hne).trans h
theorem Whole.other {w : World} {g : Nat} {t : TypeId} {cs : Array Value} (h : Whole w g t cs) {p : Addr} (hp : g ≠ p.block) (u : Value) : Whole (w.setCell p u) g t cs := (Below.heap_setCell w p u g hp).trans h
theorem Whole.alloc {w : World} {g : Nat} {t : TypeId} {cs : Array Value} (h : Whole w g t cs) (o : Obj) : Whole (w.alloc o) g t cs := (Below.heap_alloc w o g h.lt).trans h

theorem below_drewN {B : Nat} {w w1 : World} (h : Below B w w1) (n : Nat) : Below B w (w1.drewN n) := h.trans ⟨rfl, rfl, rfl, Nat.le_refl _, fun _ _ => rfl⟩
theorem below_more {w w1 w2 : World} (h : Below w.heap.size w w1) (h2 : Below w1.heap.size w1 w2) : Below w.heap.size w w2 := h.trans (h2.mono h.size)
theorem below_base {B : Nat} {w w1 w2 : World} (h : Below B w w1) (hB : B ≤ w1.heap.size) (h2 : Below w1.heap.size w1 w2) : Below B w w2 := h.trans (h2.mono hB)
theorem bal {w w1 : World} {o : Obj} (h : Below w.heap.size w w1) : Below w.heap.size w (w1.alloc o) := h.alloc h.size o
theorem cell_kept {w : World} {p : Addr} {u : Value} (h : w.cell? p = some u) (o : Obj) : (w.alloc o).cell? p = some u := (World.cell?_alloc_lt w o p (World.block_lt_of_cell? w _ h)).trans h
theorem size_alloc (w : World) (o : Obj) : (w.alloc o).heap.size = w.heap.size + 1 := by simp
theorem ret_i64 {a b : Int} (h : a = b) : Ending.returned (.int .i64 a) = .returned (.int .i64 b) := by rw [h]
theorem ret_bool {a b : Bool} (h : a = b) : Ending.returned (.bool a) = .returned (.bool b) := by rw [h]
end Go.Proofs.Ytlgjfhjnfimahaa
