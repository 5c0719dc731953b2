/-
  The reference's memory that lies in blocks: its numbers, its lines, how often each was written.
-/
import Derived.Test.YtomodoofpjgpgaaNvp
namespace Go.Proofs.Ytomodoofpjgpgaa
open Go.ChangeShapes Go.WideShapes Go.ChangeAt Go.RowKit

def tab (n : Nat) (f : Nat → Value) : Array Value := ((List.range n).map f).toArray
theorem tab_size (n : Nat) (f : Nat → Value) : (tab n f).size = n := by rw [tab, List.size_toArray, List.length_map, List.length_range]
theorem tab_at (n : Nat) (f : Nat → Value) (k : Nat) : (tab n f)[k]? = if k < n then some (f k) else none := by
  rw [tab, List.getElem?_toArray, List.getElem?_map]
  by_cases hk : k < n
  · rw [List.getElem?_range hk, if_pos hk]; rfl
  · rw [List.getElem?_eq_none (by rw [List.length_range]; omega), if_neg hk]; rfl
theorem tab_ext {n : Nat} {cs : Array Value} {f : Nat → Value} (h : ∀ j, cs[j]? = if j < n then some (f j) else none) : cs = tab n f := by
  apply Array.ext_getElem?
  intro j
  rw [h j, tab_at]
theorem Whole.tab1 {w : World} {g n : Nat} {t : TypeId} {f f' : Nat → Value} (h : Whole w g t (tab n f)) (k : Nat) (v : Value) (hk : k < n) (he : ∀ j, j < n → f' j = if j = k then v else f j) : Whole (w.setCell ⟨g, k, none⟩ v) g t (tab n f') := by
  have := h.set_ k v
  have e : (tab n f).setIfInBounds k v = tab n f' := tab_ext fun j => by
    rw [Array.getElem?_setIfInBounds, tab_at, tab_size]
    by_cases hj : j < n
    · rw [if_pos hj, if_pos hj, he j hj]
      by_cases e : k = j
      · subst e; simp [hk]
      · rw [if_neg e, if_neg (fun h => e h.symm)]
    · rw [if_neg hj, if_neg hj]
      by_cases e : k = j
      · rw [if_pos e, if_neg (fun hx => hj (e ▸ hx))]
      · rw [if_neg e]
  rw [e] at this
  exact this
theorem Whole.tabN {w : World} {g n : Nat} {t : TypeId} {f f' : Nat → Value} (h : Whole w g t (tab n f)) (o : Nat) (vs : List Value) (he : ∀ j, j < n → some (f' j) = if o ≤ j ∧ j < o + vs.length then vs[j - o]? else some (f j)) : Whole (w.setCells g o vs) g t (tab n f') := by
  obtain ⟨cs', h1, h2, h3⟩ := Whole.setCells vs o w (tab n f) h
  have e : cs' = tab n f' := tab_ext fun j => by
    rw [h3 j, tab_at, tab_size]
    by_cases hj : j < n
    · rw [if_pos hj, if_pos hj, he j hj]
      by_cases hin : o ≤ j ∧ j < o + vs.length
      · rw [if_pos hin, if_pos ⟨hin.1, hin.2, hj⟩]
      · rw [if_neg hin, if_neg (fun hx => hin ⟨hx.1, hx.2.1⟩)]
    · rw [if_neg (fun hx => hj hx.2.2), if_neg hj, if_neg hj]
  rw [e] at h1
  exact h1
theorem Whole.cellAt {w : World} {g n : Nat} {t : TypeId} {f : Nat → Value} (h : Whole w g t (tab n f)) {k : Nat} (hk : k < n) : w.cell? ⟨g, k, none⟩ = some (f k) := by
  rw [h.at_, tab_at, if_pos hk]
theorem Whole.tabEq {w : World} {g n : Nat} {t : TypeId} {f f' : Nat → Value} (h : Whole w g t (tab n f)) (he : ∀ j, j < n → f' j = f j) : Whole w g t (tab n f') := by
  have e : tab n f = tab n f' := tab_ext fun j => by
    rw [tab_at]
    by_cases hj : j < n
    · rw [if_pos hj, if_pos hj, he j hj]
    · rw [if_neg hj, if_neg hj]
  rw [← e]; exact h

/-- where it lies: the struct's block, the lines', the wears', and the limits' value -/
structure Rg where
  a : Nat
  l : Nat
  m : Nat
  v : Value
  lim : List Int
def Rg.D (r : Rg) : List Nat := [r.a, r.l, r.m]

def rcell (r : Rg) (cuts mk : Int) (s : Nv) (k : Nat) : Value :=
  if k = 0 then .slice (some ⟨r.l, 0, none⟩) s.n s.n
  else if k < 36 then .int .u64 (s.rg (k - 1))
  else if k = 36 then .slice (some ⟨r.m, 0, none⟩) s.n s.n
  else if k = 37 then r.v
  else if k = 38 then .int .i64 cuts
  else if k = 39 then .int .i64 mk
  else if k = 40 then .bool s.dark
  else .int .i64 s.c
def lcell (s : Nv) (k : Nat) : Value := .int .u64 ((s.h (k / 8)).getD (k % 8) 0)
def wcell (s : Nv) (k : Nat) : Value := .int .i64 (s.wr k)

/-- the blocks hold s -/
structure RB (w : World) (r : Rg) (s : Nv) (cuts mk : Int) : Prop where
  blk : Whole w r.a 45 (tab 42 (rcell r cuts mk s))
  lin : Whole w r.l 31 (tab (s.n * 8) (lcell s))
  wea : Whole w r.m 3 (tab s.n (wcell s))
  lim : RI w r.v r.lim
  far : ∀ p n c, r.v = .slice p n c → ∀ q, p = some q → q.block ∉ r.D
  la : ∀ i, i < s.n → s.la i = if i < r.lim.length then r.lim.getD i 0 else -1
  ne1 : r.a ≠ r.l
  ne2 : r.a ≠ r.m
  ne3 : r.l ≠ r.m

theorem RB.chg {D : List Nat} {w w' : World} {r : Rg} {s : Nv} {cuts mk : Int} (h : RB w r s cuts mk) (hc : Chg D w w') (hD : ∀ k ∈ D, k ∉ r.D ∧ ∀ p n c, r.v = .slice p n c → ∀ q, p = some q → q.block ≠ k) : RB w' r s cuts mk := by
  have hn : ∀ k ∈ r.D, k ∉ D := fun k hk hx => (hD k hx).1 hk
  refine ⟨hc.whole h.blk (hn _ (by simp [Rg.D])), hc.whole h.lin (hn _ (by simp [Rg.D])), hc.whole h.wea (hn _ (by simp [Rg.D])), ?_, h.far, h.la, h.ne1, h.ne2, h.ne3⟩
  have hl := h.lim
  obtain ⟨p, cap, e, h1, h2, hz | ⟨b, off, rfl, hcell⟩⟩ := hl
  · exact ⟨p, cap, e, h1, h2, .inl hz⟩
  · refine ⟨_, cap, e, h1, h2, .inr ⟨b, off, rfl, fun i hi => ?_⟩⟩
    have hx := hcell i hi
    have hlt := World.block_lt_of_cell? w _ hx
    rw [World.cell?_of_block (w := w) (hc.block b hlt (fun hb => (hD b hb).2 _ _ _ e _ rfl rfl))]
    exact hx
theorem RB.below {w w' : World} {r : Rg} {s : Nv} {cuts mk : Int} (h : RB w r s cuts mk) (hb : Below w.heap.size w w') : RB w' r s cuts mk :=
  h.chg (Chg.of_below hb []) (fun k hk => by simp at hk)
/-- a store into one of its own blocks: the limits stay -/
theorem RB.limStays {w w' : World} {r : Rg} {s : Nv} {cuts mk : Int} (h : RB w r s cuts mk) (hc : Chg r.D w w') : RI w' r.v r.lim := by
  obtain ⟨p, cap, e, h1, h2, hz | ⟨b, off, rfl, hcell⟩⟩ := h.lim
  · exact ⟨p, cap, e, h1, h2, .inl hz⟩
  · refine ⟨_, cap, e, h1, h2, .inr ⟨b, off, rfl, fun i hi => ?_⟩⟩
    have hx := hcell i hi
    have hlt := World.block_lt_of_cell? w _ hx
    rw [World.cell?_of_block (w := w) (hc.block b hlt (h.far _ _ _ e _ rfl))]
    exact hx
theorem RB.drew {w : World} {r : Rg} {s : Nv} {cuts mk : Int} (h : RB w r s cuts mk) : RB w.drew r s cuts mk := ⟨h.blk, h.lin, h.wea, h.lim, h.far, h.la, h.ne1, h.ne2, h.ne3⟩
theorem RB.drewN {w : World} {r : Rg} {s : Nv} {cuts mk : Int} (h : RB w r s cuts mk) (n : Nat) : RB (w.drewN n) r s cuts mk := ⟨h.blk, h.lin, h.wea, h.lim, h.far, h.la, h.ne1, h.ne2, h.ne3⟩
theorem RB.alloc {w : World} {r : Rg} {s : Nv} {cuts mk : Int} (h : RB w r s cuts mk) (o : Obj) : RB (w.alloc o) r s cuts mk := h.below (bal (Below.refl _ _))
theorem RB.as {w : World} {r : Rg} {s s' : Nv} {cuts mk : Int} (h : RB w r s cuts mk) (e : s = s') : RB w r s' cuts mk := e ▸ h

/-- one cell of the struct stored -/
theorem RB.put1 {w : World} {r : Rg} {s s' : Nv} {cuts mk cuts' mk' : Int} (h : RB w r s cuts mk) (k : Nat) (v : Value) (hk : k < 42) (he : ∀ j, j < 42 → rcell r cuts' mk' s' j = if j = k then v else rcell r cuts mk s j)
    (e1 : s'.n = s.n) (e2 : s'.h = s.h) (e3 : s'.wr = s.wr) (e4 : s'.la = s.la) : RB (w.setCell ⟨r.a, k, none⟩ v) r s' cuts' mk' := by
  have hlim := h.limStays ((Chg.refl r.D w).setCell (p := ⟨r.a, k, none⟩) (.inl (by simp [Rg.D])) v)
  refine ⟨h.blk.tab1 k v hk he, ?_, ?_, hlim, h.far, fun i hi => by rw [e4]; exact h.la i (by omega), h.ne1, h.ne2, h.ne3⟩
  · rw [e1]
    exact (h.lin.other (p := ⟨r.a, k, none⟩) h.ne1.symm v).tabEq fun j _ => by simp [lcell, e2]
  · rw [e1]
    exact (h.wea.other (p := ⟨r.a, k, none⟩) h.ne2.symm v).tabEq fun j _ => by simp [wcell, e3]
theorem RB.set_c {w : World} {r : Rg} {s : Nv} {cuts mk : Int} (h : RB w r s cuts mk) (x : Int) : RB (w.setCell ⟨r.a, 41, none⟩ (.int .i64 x)) r { s with c := x } cuts mk :=
  h.put1 41 _ (by decide) (fun j hj => by
    by_cases e : j = 41
    · subst e; rfl
    · rw [if_neg e]
      have h1 : j = 0 ∨ (j ≠ 0 ∧ j < 36) ∨ j = 36 ∨ j = 37 ∨ j = 38 ∨ j = 39 ∨ j = 40 := by omega
      rcases h1 with h1 | ⟨h1, h2⟩ | h1 | h1 | h1 | h1 | h1
      · subst h1; rfl
      · simp only [rcell, if_neg h1, if_pos h2]
      all_goals (subst h1; rfl)) rfl rfl rfl rfl
theorem RB.set_dark {w : World} {r : Rg} {s : Nv} {cuts mk : Int} (h : RB w r s cuts mk) (x : Bool) : RB (w.setCell ⟨r.a, 40, none⟩ (.bool x)) r { s with dark := x } cuts mk :=
  h.put1 40 _ (by decide) (fun j hj => by
    by_cases e : j = 40
    · subst e; rfl
    · rw [if_neg e]; simp only [rcell, e, if_false]) rfl rfl rfl rfl
theorem RB.set_cuts {w : World} {r : Rg} {s : Nv} {cuts mk : Int} (h : RB w r s cuts mk) (x : Int) : RB (w.setCell ⟨r.a, 38, none⟩ (.int .i64 x)) r s x mk :=
  h.put1 38 _ (by decide) (fun j hj => by
    by_cases e : j = 38
    · subst e; rfl
    · rw [if_neg e]; simp only [rcell, e, if_false]) rfl rfl rfl rfl
theorem RB.set_mask {w : World} {r : Rg} {s : Nv} {cuts mk : Int} (h : RB w r s cuts mk) (x : Int) : RB (w.setCell ⟨r.a, 39, none⟩ (.int .i64 x)) r s cuts x :=
  h.put1 39 _ (by decide) (fun j hj => by
    by_cases e : j = 39
    · subst e; rfl
    · rw [if_neg e]; simp only [rcell, e, if_false]) rfl rfl rfl rfl
theorem RB.set_reg {w : World} {r : Rg} {s : Nv} {cuts mk : Int} (h : RB w r s cuts mk) {k : Nat} (hk : k < 35) (x : Int) : RB (w.setCell ⟨r.a, 1 + k, none⟩ (.int .u64 x)) r (s.reg k x) cuts mk :=
  h.put1 (1 + k) _ (by omega) (fun j hj => by
    by_cases e : j = 1 + k
    · subst e
      have e1 : 1 + k - 1 = k := by omega
      rw [if_pos rfl, rcell, if_neg (by omega), if_pos (by omega), e1]; simp [Nv.reg, upd]
    · rw [if_neg e]
      by_cases h0 : j = 0
      · subst h0; rfl
      · by_cases h1 : j < 36
        · have e2 : j - 1 ≠ k := by omega
          simp only [rcell, if_neg h0, if_pos h1, Nv.reg, upd, if_neg e2]
        · simp only [rcell, if_neg h0, if_neg h1]; rfl) rfl rfl rfl rfl
theorem RB.set_wear {w : World} {r : Rg} {s : Nv} {cuts mk : Int} (h : RB w r s cuts mk) {k : Nat} (hk : k < s.n) (x : Int) : RB (w.setCell ⟨r.m, k, none⟩ (.int .i64 x)) r { s with wr := upd s.wr k x } cuts mk := by
  have hlim := h.limStays ((Chg.refl r.D w).setCell (p := ⟨r.m, k, none⟩) (.inl (by simp [Rg.D])) (.int .i64 x))
  refine ⟨h.blk.other (p := ⟨r.m, k, none⟩) h.ne2 _, h.lin.other (p := ⟨r.m, k, none⟩) h.ne3 _, ?_, hlim, h.far, h.la, h.ne1, h.ne2, h.ne3⟩
  refine h.wea.tab1 k _ hk fun j _ => ?_
  by_cases e : j = k
  · subst e; rw [if_pos rfl]; simp [wcell, upd]
  · rw [if_neg e]; simp [wcell, upd, e]
theorem whole_setCells_other {g g' : Nat} {t : TypeId} {cs : Array Value} (hne : g ≠ g') : ∀ (vs : List Value) (o : Nat) (w : World), Whole w g t cs → Whole (w.setCells g' o vs) g t cs
  | [], _, _, h => h
  | v :: vr, o, w, h => by
    rw [World.setCells]
    exact whole_setCells_other hne vr (o + 1) _ (h.other (p := ⟨g', o, none⟩) hne v)
theorem RB.set_line {w : World} {r : Rg} {s : Nv} {cuts mk : Int} (h : RB w r s cuts mk) (k : Nat) {l : List Int} (hl : l.length = 8) : RB (w.setCells r.l (k * 8) (l.map uv)) r { s with h := upd s.h k l } cuts mk := by
  have hlim := h.limStays (Chg.setCells (D := r.D) (w := w) (b := r.l) (.inl (by simp [Rg.D])) (l.map uv) (k * 8) w (Chg.refl _ _))
  refine ⟨whole_setCells_other h.ne1 _ _ _ h.blk, ?_, whole_setCells_other (fun e => h.ne3 e.symm) _ _ _ h.wea, hlim, h.far, h.la, h.ne1, h.ne2, h.ne3⟩
  refine h.lin.tabN (k * 8) _ fun j hj => ?_
  rw [List.length_map, hl]
  by_cases hin : k * 8 ≤ j ∧ j < k * 8 + 8
  · rw [if_pos hin]
    obtain ⟨i, rfl⟩ : ∃ i, j = k * 8 + i := ⟨j - k * 8, by omega⟩
    have hi : i < 8 := by omega
    have e1 : (k * 8 + i) / 8 = k := by omega
    have e2 : (k * 8 + i) % 8 = i := by omega
    rw [lcell, e1, e2, Nat.add_sub_cancel_left]
    simp [upd, uv, hl, hi]
  · rw [if_neg hin]
    have e : j / 8 ≠ k := by omega
    simp [lcell, upd, e]

theorem RB.cells {w : World} {r : Rg} {s : Nv} {cuts mk : Int} (h : RB w r s cuts mk) :
    w.cell? ⟨r.a, 0, none⟩ = some (.slice (some ⟨r.l, 0, none⟩) s.n s.n) ∧ w.cell? ⟨r.a, 36, none⟩ = some (.slice (some ⟨r.m, 0, none⟩) s.n s.n) ∧ w.cell? ⟨r.a, 37, none⟩ = some r.v ∧ w.cell? ⟨r.a, 38, none⟩ = some (.int .i64 cuts) ∧
    w.cell? ⟨r.a, 39, none⟩ = some (.int .i64 mk) ∧ w.cell? ⟨r.a, 40, none⟩ = some (.bool s.dark) ∧ w.cell? ⟨r.a, 41, none⟩ = some (.int .i64 s.c) :=
  ⟨h.blk.cellAt (k := 0) (by decide), h.blk.cellAt (k := 36) (by decide), h.blk.cellAt (k := 37) (by decide), h.blk.cellAt (k := 38) (by decide), h.blk.cellAt (k := 39) (by decide), h.blk.cellAt (k := 40) (by decide), h.blk.cellAt (k := 41) (by decide)⟩
theorem RB.free {w : World} {r : Rg} {s : Nv} {cuts mk : Int} (h : RB w r s cuts mk) (k : Nat) : w.frozen? ⟨r.a, k, none⟩ = false := h.blk.free k
theorem RB.regAt {w : World} {r : Rg} {s : Nv} {cuts mk : Int} (h : RB w r s cuts mk) {k : Nat} (hk : k < 35) : w.cell? ⟨r.a, 1 + k, none⟩ = some (.int .u64 (s.rg k)) := by
  rw [h.blk.cellAt (k := 1 + k) (by omega)]
  have e1 : 1 + k - 1 = k := by omega
  rw [rcell, if_neg (by omega), if_pos (by omega), e1]
theorem RB.wearAt {w : World} {r : Rg} {s : Nv} {cuts mk : Int} (h : RB w r s cuts mk) {k : Nat} (hk : k < s.n) : w.cell? ⟨r.m, k, none⟩ = some (.int .i64 (s.wr k)) := h.wea.cellAt hk
theorem RB.loadLine {w : World} {r : Rg} {s : Nv} {cuts mk : Int} (h : RB w r s cuts mk) {k : Nat} (hk : k < s.n) (hl : (s.h k).length = 8) : (lineLoad (.pointer (some ⟨r.l, k * 8, none⟩))).run Try.prog w = .ok (.agg (lc (s.h k))) w := by
  unfold lineLoad
  exact run_loadAt_mid (P := Try.prog) w r.l (k * 8) 31 ((s.h k).map uv) _ (fun j v hv => by
    have hj : j < 8 := by
      have := (List.getElem?_eq_some_iff.1 hv).1
      simpa [hl] using this
    have e1 : (k * 8 + j) / 8 = k := by omega
    have e2 : (k * 8 + j) % 8 = j := by omega
    rw [h.lin.cellAt (k := k * 8 + j) (by omega), lcell, e1, e2, ← hv]
    simp [uv, hl, hj]) Try.underlying31 rfl (by rw [info_line]; simp [hl])
theorem RB.storeLine {w : World} {r : Rg} {s : Nv} {cuts mk : Int} (h : RB w r s cuts mk) {k : Nat} (hk : k < s.n) {l : List Int} (hl : l.length = 8) : (lineStore (.pointer (some ⟨r.l, k * 8, none⟩)) (.agg (lc l))).run Try.prog w = .ok () (w.setCells r.l (k * 8) (l.map uv)) := by
  unfold lineStore
  exact run_storeAt_mid (P := Try.prog) w r.l (k * 8) 31 (lc l) (fun j hj => by
    rw [lc_size, hl] at hj
    exact ⟨by rw [h.lin.cellAt (k := k * 8 + j) (by omega)]; rfl, h.lin.free _⟩) (by rw [info_line, lc_size, hl]) (lc_one l)

/-- what its Cuts and Mask say of when the power goes -/
def Rel (s : Nv) (cuts mk : Int) : Prop :=
  s.dark = true ∨ (s.comes = false ∧ cuts = 0) ∨ (s.comes = true ∧ 0 ≤ s.ahead ∧ 4611686018427387904 ≤ s.ahead + s.c ∧ cuts = 0) ∨ (s.comes = true ∧ 0 ≤ s.ahead ∧ s.ahead < 4611686018427387904 ∧ cuts = s.ahead + 1 ∧ mk = s.mask)
/-- the reference's memory is s -/
def Rm (w : World) (r : Rg) (s : Nv) : Prop := ∃ cuts mk, RB w r s cuts mk ∧ Rel s cuts mk
end Go.Proofs.Ytomodoofpjgpgaa
