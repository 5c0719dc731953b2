/-
  A call of a script (of layer 5's statements), by value and in a slice: how it came in, how it reads.
-/
import Derived.Test.YtjchmkgkibiadaaNvw
import Derived.Deep.Slices
namespace Go.Proofs.Ytjchmkgkibiadaa
open Go.ChangeShapes Go.WideShapes Go.ChangeAt Go.RowKit

structure Cl where
  d : Int
  i : Int
  n : Int
  l : List Int
  v : Int
def Cl.cells (c : Cl) : List Value := .int .i64 c.d :: .int .i64 c.i :: .int .i64 c.n :: (c.l.map uv ++ [.int .u64 c.v])
def cc (c : Cl) : Array Value := c.cells.toArray
structure Cl.Wf (c : Cl) : Prop where
  len : c.l.length = 8
  wd : (Lit.int .i64 c.d).wf = true
  wi : (Lit.int .i64 c.i).wf = true
  wn : (Lit.int .i64 c.n).wf = true
  wl : wfu c.l
  wv : (Lit.int .u64 c.v).wf = true
instance : Inhabited Cl := ⟨⟨0, 0, 0, zeros, 0⟩⟩

theorem cells_i64 : Try.prog.cellsOf 3 = 1 := by kernel_rfl

theorem list8 {l : List Value} (h : l.length = 8) (f : Nat → Int) (hf : ∀ i, i < 8 → l[i]? = some (.int .u64 (f i))) : l = ((List.range 8).map f).map uv := by
  apply List.ext_getElem?
  intro i
  by_cases hi : i < 8
  · rw [hf i hi]; simp [hi, uv]
  · rw [List.getElem?_eq_none (by omega), List.getElem?_eq_none (by simp; omega)]

/-- a line's cells that read -/
theorem line_cells {H : Type} {enc : TypeId × Value → H} {W : World} {base n : Nat} {sp : Nat → Bool} {held : Bool} {cs : List Value} {y : DataW H × List MemPlace}
    (h : DataW.trod enc Try.prog W base sp held n 33 cs = some y) (hl8 : cs.length = 8) : ∃ l : List Int, cs = l.map uv ∧ l.length = 8 ∧ wfu l := by
  obtain ⟨xs, m, _, _, _, hl, hi⟩ := Go.DataW.trod_array Try.underlying33 h
  rw [cells_u64] at hi
  have pick : ∀ i, ∃ x : Int, i < 8 → cs[i]? = some (.int .u64 x) ∧ (Lit.int .u64 x).wf = true := by
    intro i
    by_cases h8 : i < 8
    · have hx := hi i h8
      rw [List.getElem?_eq_getElem (by omega : i < xs.length)] at hx
      obtain ⟨x, hc, _, hw⟩ := DataW.trod_int Try.underlying25 hx
      refine ⟨x, fun _ => ⟨?_, hw⟩⟩
      have := congrArg (·[0]?) hc
      simpa [Value.cells, List.getElem?_take, List.getElem?_drop] using this
    · exact ⟨0, fun h => absurd h h8⟩
  obtain ⟨f, hfp⟩ := Classical.axiomOfChoice pick
  refine ⟨(List.range 8).map f, list8 hl8 f fun i hi => (hfp i hi).1, by simp, ?_⟩
  intro n hn
  obtain ⟨i, hi', rfl⟩ := List.mem_map.1 hn
  exact (hfp i (by simpa using hi')).2

theorem trod_struct5 {H : Type} {enc : TypeId × Value → H} {P : Program} {w : World} {base : Nat} {spare : Nat → Bool} {held : Bool} {t : TypeId} {f0 f1 f2 f3 f4 : Field} {fuel : Nat} {cs : List Value} {x : DataW H × List MemPlace}
    (ht : P.underlying t = some (.struct #[f0, f1, f2, f3, f4])) (h : DataW.trod enc P w base spare held fuel t cs = some x) :
    ∃ y0 y1 y2 y3 y4 n, cs.length = P.cellsOf t ∧ DataW.trod enc P w base spare held n f0.type ((cs.drop f0.offset).take (P.cellsOf f0.type)) = some y0 ∧
      DataW.trod enc P w base spare held n f1.type ((cs.drop f1.offset).take (P.cellsOf f1.type)) = some y1 ∧ DataW.trod enc P w base spare held n f2.type ((cs.drop f2.offset).take (P.cellsOf f2.type)) = some y2 ∧
      DataW.trod enc P w base spare held n f3.type ((cs.drop f3.offset).take (P.cellsOf f3.type)) = some y3 ∧ DataW.trod enc P w base spare held n f4.type ((cs.drop f4.offset).take (P.cellsOf f4.type)) = some y4 := by
  obtain ⟨xs, n, _, rfl, hl, hlen, hf⟩ := DataW.trod_struct ht h
  match xs, hlen with
  | [y0, y1, y2, y3, y4], _ => exact ⟨y0, y1, y2, y3, y4, n, hl, by simpa using hf 0 f0 rfl, by simpa using hf 1 f1 rfl, by simpa using hf 2 f2 rfl, by simpa using hf 3 f3 rfl, by simpa using hf 4 f4 rfl⟩



/-- a slice of calls that can be read -/
def RC (w : World) (v : Value) (l : List Cl) : Prop :=
  ∃ p cap, v = .slice p l.length cap ∧ l.length ≤ cap ∧ cap ≤ maxLen ∧ (∀ k, k < l.length → (l.getD k default).Wf) ∧
    (l = [] ∨ ∃ b off, p = some ⟨b, off, none⟩ ∧ b < w.heap.size ∧ ∀ k, k < l.length → w.rangeAt b (off + k * 12) (l.getD k default).cells)
theorem rc_below {w w' : World} {v : Value} {l : List Cl} (h : RC w v l) (hb : Below w.heap.size w w') : RC w' v l := by
  obtain ⟨p, cap, rfl, h1, h2, h3, h | ⟨b, off, rfl, hlt, hc⟩⟩ := h
  · exact ⟨p, cap, rfl, h1, h2, h3, .inl h⟩
  · refine ⟨_, cap, rfl, h1, h2, h3, .inr ⟨b, off, rfl, Nat.lt_of_lt_of_le hlt hb.size, fun k hk j u hj => ?_⟩⟩
    rw [hb.cell (p := ⟨b, off + k * 12 + j, none⟩) hlt]
    exact hc k hk j u hj

end Go.Proofs.Ytjchmkgkibiadaa
