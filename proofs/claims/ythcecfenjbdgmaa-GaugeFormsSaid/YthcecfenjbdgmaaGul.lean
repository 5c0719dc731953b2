/-
  How much life lines have left, and how often lines were written, plainly.
-/
import Derived.Test.YthcecfenjbdgmaaParts
import Derived.Test.YthcecfenjbdgmaaRef
import Derived.Test.YthcecfenjbdgmaaOwi
import Derived.Test.YthcecfenjbdgmaaNvs
namespace Go.Proofs.Ythcecfenjbdgmaa
set_option maxRecDepth 100000
open D Go.RowKit Go.WideShapes

/-- the life that a line has left, as a word -/
def lifeV (x n : Int) : Nat := if n < 0 then infW else if n ≤ max x 0 then 0 else ratV (hn (n - max x 0)) (hn n)
theorem lifeV_lt (x n : Int) : lifeV x n < 2 ^ 64 := by
  unfold lifeV; split
  · decide
  · split
    · decide
    · exact ratV_le _ _
/-- a line's limit; one that lacks is -1 -/
def limAt (m : List Int) (k : Nat) : Int := if k < m.length then m.getD k 0 else -1
theorem limAt_wf {m : List Int} (h : ∀ n ∈ m, (Lit.int .i64 n).wf = true) (k : Nat) : (Lit.int .i64 (limAt m k)).wf = true := by
  unfold limAt; split
  · rename_i hk
    refine h _ ?_
    simp [hk]
  · rfl
theorem at_wf {m : List Int} (h : ∀ n ∈ m, (Lit.int .i64 n).wf = true) {k : Nat} (hk : k < m.length) : (Lit.int .i64 (m.getD k 0)).wf = true := h _ (by simp [hk])
/-- the lives of the first k lines; of the others nought -/
def lvk (l m : List Int) (k : Nat) : List Nat := (List.range l.length).map fun i => if i < k then lifeV (l.getD i 0) (limAt m i) else 0
def lvs (l m : List Int) : List Nat := lvk l m l.length
theorem lvk_length (l m : List Int) (k : Nat) : (lvk l m k).length = l.length := by simp [lvk]
theorem lvs_length (l m : List Int) : (lvs l m).length = l.length := lvk_length l m _
theorem lvk_at {l m : List Int} {k i : Nat} (h : i < l.length) : (lvk l m k).getD i 0 = if i < k then lifeV (l.getD i 0) (limAt m i) else 0 := by simp [lvk, h]
theorem lvs_at {l m : List Int} {i : Nat} (h : i < l.length) : (lvs l m).getD i 0 = lifeV (l.getD i 0) (limAt m i) := by unfold lvs; rw [lvk_at h, if_pos h]
theorem lvk_zero (l m : List Int) : List.replicate l.length 0 = lvk l m 0 := by
  refine List.ext_getElem (by simp [lvk]) fun i h1 h2 => ?_
  simp [lvk]
theorem lvk_set {l m : List Int} (k : Nat) : (lvk l m k).set k (lifeV (l.getD k 0) (limAt m k)) = lvk l m (k + 1) := by
  refine List.ext_getElem (by simp [lvk]) fun i h1 h2 => ?_
  rw [List.getElem_set]
  split
  · rename_i e; subst e; simp [lvk]
  · rename_i e
    simp only [lvk, List.getElem_map, List.getElem_range]
    by_cases hi : i < k
    · rw [if_pos hi, if_pos (by omega)]
    · rw [if_neg hi, if_neg (by omega)]
theorem lvs_take {l m : List Int} {k : Nat} (h : k < l.length) : (lvs l m).take (k + 1) = (lvs l m).take k ++ [lifeV (l.getD k 0) (limAt m k)] := by
  have e := take_snoc (l := lvs l m) (k := k) (by rw [lvs_length]; exact h)
  rw [e, lvs_at h]
theorem lvs_small (l m : List Int) : Small (lvs l m) := by
  intro i hi
  rw [lvs_length] at hi
  rw [lvs_at hi]; exact lifeV_lt _ _
theorem worst_lt (l m : List Int) : minV (lvs l m) < 2 ^ 64 := by
  unfold minV; split
  · decide
  · exact minAt_small (lvs_small l m) _ (by omega)

/-- how often the lines from f to t - 1 were written, of those that there are -/
def wrs (s : Nv) (f t : Int) : List Int := byF (min t (s.n : Int) - max f 0).toNat fun k => s.wear (max f 0 + k)
theorem wrs_length (s : Nv) (f t : Int) : (wrs s f t).length = (min t (s.n : Int) - max f 0).toNat := byF_length ..
theorem byF_succ (n : Nat) (f : Nat → Int) : byF (n + 1) f = byF n f ++ [f n] := by simp [byF, List.range_succ]

theorem RI.m {w : World} {v : Value} {l : List Int} (h : RI w v l) : RIm w v l := by
  obtain ⟨p, c, e, _, _, g⟩ := h; exact ⟨p, c, e, g⟩

theorem made_own_f (w : World) (n : Nat) (hn : n ≤ maxLen) : Own w.heap.size (w.alloc (.cells (madeCells #[.float .f64 0] n) 25)) (.slice (some ⟨w.heap.size, 0, none⟩) n n) (List.replicate n 0) := by
  have e : (madeCells #[.float .f64 0] n).toList = (List.replicate n 0).map fl := by rw [toList_madeCells_one]; simp [fl]
  refine ⟨by simp, .inr ⟨w.heap.size, n, madeCells #[.float .f64 0] n, by simp, Nat.le_refl _, heap_alloc_new w _, by simp, hn, by rw [← Array.length_toList, e]; simp, by rw [e]; simp⟩⟩
theorem own_shape_f {B : Nat} {w : World} {v : Value} {l : List Nat} (h : Own B w v l) : ∃ p c, v = .slice p l.length c := by
  obtain ⟨p, c, h, _⟩ := h.reads; exact ⟨p, c, h⟩
theorem own_stored_f {B g c : Nat} {w : World} {n : Nat} {l : List Nat} (h : Own B w (.slice (some ⟨g, 0, none⟩) n c) l) (j : Nat) (x : Nat) : Own B (w.setCell ⟨g, j, none⟩ (.float .f64 x)) (.slice (some ⟨g, 0, none⟩) n c) (l.set j x) := by
  have hn : n = l.length := by
    obtain ⟨p, c', e⟩ := own_shape_f h
    cases e; rfl
  subst hn
  have := World.ownsRow.stored (g := g) (cap := c) h j (fl x)
  unfold Own
  rw [List.length_set, List.map_set]
  exact this.1
theorem own_cell_f {B : Nat} {w : World} {g n c : Nat} {l : List Nat} (h : Own B w (.slice (some ⟨g, 0, none⟩) n c) l) {j : Nat} (hj : j < l.length) : w.cell? ⟨g, j, none⟩ = some (.float .f64 (l.getD j 0)) ∧ w.frozen? ⟨g, j, none⟩ = false := by
  have hn : n = l.length := by
    obtain ⟨p, c', e⟩ := own_shape_f h
    cases e; rfl
  subst hn
  refine ⟨?_, World.ownsRow.frozenAt (g := g) (cap := c) h j⟩
  rw [World.ownsRow.cellAt (g := g) (cap := c) h j (by omega)]
  simp [hj, fl]
theorem own_below_f {B : Nat} {w w' : World} {v : Value} {l : List Nat} (h : Own B w v l) (hb : Below w.heap.size w w') : Own B w' v l := by
  refine ⟨h.1, h.2.imp id ?_⟩
  rintro ⟨g, cap, cur, hv, h1, hg, r⟩
  exact ⟨g, cap, cur, hv, h1, (hb.block g (Array.getElem?_eq_some_iff.1 hg).1).trans hg, r⟩
end Go.Proofs.Ythcecfenjbdgmaa
