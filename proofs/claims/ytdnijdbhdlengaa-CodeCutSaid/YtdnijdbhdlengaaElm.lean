/-
  Slices of any type of elements, in any program: how they read, how they came in, those of a call's own, append onto them, stores into them.
-/
import Derived.Test.YtdnijdbhdlengaaChg
import Derived.Deep.Slices
import Derived.Deep.OwnRows
import Derived.Maps.AppendAt
import Derived.OwnWalk
import Derived.SizedLaws
namespace Go.Proofs.Ytdnijdbhdlengaa
set_option maxRecDepth 100000
open Go.ChangeShapes Go.WideShapes Go.ChangeAt Go.RowKit

/-- a type of slices in a program: its elements as cells -/
structure Elm (P : Program) (α : Type) [Inhabited α] where
  t : TypeId
  e : TypeId
  size : Nat
  bytes : Nat
  z : Value
  enc : α → List Value
  ok : α → Prop
  ht : P.underlying t = some (.slice e)
  hi : (P.info? e).map (fun i => (i.zero, i.size, i.bytes)) = some (some z, size, bytes)
  hzs : z.cells.size = size
  pos : 0 < size
  bpos : 0 < bytes
  len : ∀ a, ok a → (enc a).length = size
  one : ∀ a, ok a → ∀ u ∈ enc a, u.oneCell' = true

section
variable {P : Program} {α : Type} [Inhabited α]

def AllOk (E : Elm P α) (l : List α) : Prop := ∀ x ∈ l, E.ok x
theorem AllOk.at_ {E : Elm P α} {l : List α} (h : AllOk E l) {k : Nat} (hk : k < l.length) : E.ok (l.getD k default) := h _ (by
  rw [List.getD_eq_getElem?_getD, List.getElem?_eq_getElem hk]; exact List.getElem_mem hk)
theorem flat_length (E : Elm P α) : ∀ (l : List α), AllOk E l → (l.flatMap E.enc).length = l.length * E.size
  | [], _ => by simp
  | x :: l, h => by
    rw [List.flatMap_cons, List.length_append, flat_length E l (fun y hy => h y (List.mem_cons_of_mem _ hy)), E.len x (h x (List.mem_cons_self ..)), List.length_cons, Nat.add_mul, Nat.one_mul, Nat.add_comm]
theorem flat_get (E : Elm P α) : ∀ (l : List α), AllOk E l → ∀ (k j : Nat), k < l.length → j < E.size → (l.flatMap E.enc)[k * E.size + j]? = (E.enc (l.getD k default))[j]?
  | [], _, k, _, hk, _ => by simp at hk
  | x :: l, h, 0, j, _, hj => by
    rw [List.flatMap_cons, Nat.zero_mul, Nat.zero_add, List.getElem?_append_left (by rw [E.len x (h x (List.mem_cons_self ..))]; exact hj)]
    rfl
  | x :: l, h, k + 1, j, hk, hj => by
    have hx := E.len x (h x (List.mem_cons_self ..))
    rw [List.flatMap_cons, List.getElem?_append_right (by rw [hx, Nat.add_mul]; omega), hx]
    have e : (k + 1) * E.size + j - E.size = k * E.size + j := by rw [Nat.add_mul]; omega
    rw [e, flat_get E l (fun y hy => h y (List.mem_cons_of_mem _ hy)) k j (by simpa using hk) hj]
    rfl
theorem flat_one (E : Elm P α) {l : List α} (h : AllOk E l) : ∀ u ∈ l.flatMap E.enc, u.oneCell' = true := by
  intro u hu
  obtain ⟨x, hx, hu⟩ := List.mem_flatMap.1 hu
  exact E.one x (h x hx) u hu
theorem flat_ext (E : Elm P α) {l : List α} (h : AllOk E l) {ys : List Value} (hl : ys.length = l.length * E.size) (hy : ∀ k j, k < l.length → j < E.size → ys[k * E.size + j]? = (E.enc (l.getD k default))[j]?) : ys = l.flatMap E.enc := by
  refine List.ext_getElem? fun q => ?_
  have hp := E.pos
  by_cases hq : q < l.length * E.size
  · have hk : q / E.size < l.length := Nat.div_lt_of_lt_mul (by rw [Nat.mul_comm]; exact hq)
    have hj := Nat.mod_lt q hp
    have e : q / E.size * E.size + q % E.size = q := Nat.div_add_mod' q E.size
    rw [← e, hy _ _ hk hj, flat_get E l h _ _ hk hj]
  · rw [List.getElem?_eq_none (by omega), List.getElem?_eq_none (by rw [flat_length E l h]; omega)]

/-- a slice that can be read: it holds l -/
def RA (E : Elm P α) (w : World) (v : Value) (l : List α) : Prop :=
  ∃ p cap, v = .slice p l.length cap ∧ l.length ≤ cap ∧ cap ≤ maxLen ∧ AllOk E l ∧ (l = [] ∨ ∃ b off, p = some ⟨b, off, none⟩ ∧ b < w.heap.size ∧ w.rangeAt b off (l.flatMap E.enc))
theorem ra_below {E : Elm P α} {w w' : World} {v : Value} {l : List α} (h : RA E w v l) (hb : Below w.heap.size w w') : RA E w' v l := by
  obtain ⟨p, cap, rfl, h1, h2, h3, h | ⟨b, off, rfl, hlt, hc⟩⟩ := h
  · exact ⟨p, cap, rfl, h1, h2, h3, .inl h⟩
  · exact ⟨_, cap, rfl, h1, h2, h3, .inr ⟨b, off, rfl, Nat.lt_of_lt_of_le hlt hb.size, fun j u hj => (hb.cell (p := ⟨b, off + j, none⟩) hlt).trans (hc j u hj)⟩⟩
theorem ra_chg {E : Elm P α} {D : List Nat} {w w' : World} {v : Value} {l : List α} (h : RA E w v l) (hc : Chg D w w') (hD : ∀ g, v.ownBlock = some g → g ∉ D) : RA E w' v l := by
  obtain ⟨p, cap, rfl, h1, h2, h3, h | ⟨b, off, rfl, hlt, hr⟩⟩ := h
  · exact ⟨p, cap, rfl, h1, h2, h3, .inl h⟩
  · refine ⟨_, cap, rfl, h1, h2, h3, .inr ⟨b, off, rfl, Nat.lt_of_lt_of_le hlt hc.size, fun j u hj => ?_⟩⟩
    have e := hc.block b hlt (hD b rfl)
    rw [← hr j u hj]
    simp only [World.cell?, e]
theorem ra_shape {E : Elm P α} {w : World} {v : Value} {l : List α} (h : RA E w v l) : ∃ p cap, v = .slice p l.length cap ∧ l.length ≤ cap ∧ cap ≤ maxLen := by
  obtain ⟨p, cap, e, h1, h2, _⟩ := h
  exact ⟨p, cap, e, h1, h2⟩
theorem ra_ok {E : Elm P α} {w : World} {v : Value} {l : List α} (h : RA E w v l) : AllOk E l := by obtain ⟨_, _, _, _, _, h, _⟩ := h; exact h
theorem ra_nil (E : Elm P α) (w : World) : RA E w (.slice none 0 0) [] := ⟨none, 0, rfl, Nat.le_refl _, Nat.zero_le _, (fun _ h => by cases h), .inl rfl⟩
/-- its k-th element -/
theorem ra_at {E : Elm P α} {w : World} {p : Option Addr} {n cap : Nat} {l : List α} (h : RA E w (.slice p n cap) l) (h0 : 0 < l.length) :
    ∃ b off, p = some ⟨b, off, none⟩ ∧ b < w.heap.size ∧ ∀ k, k < l.length → w.rangeAt b (off + k * E.size) (E.enc (l.getD k default)) := by
  obtain ⟨q, c, e, _, _, hok, rfl | ⟨b, off, rfl, hb, hr⟩⟩ := h
  · simp at h0
  · cases e
    refine ⟨b, off, rfl, hb, fun k hk j u hj => ?_⟩
    have hj' : j < E.size := by rw [← E.len _ (hok.at_ hk)]; exact (List.getElem?_eq_some_iff.1 hj).1
    have := hr (k * E.size + j) u (by rw [flat_get E l hok k j hk hj']; exact hj)
    rwa [← Nat.add_assoc] at this
/-- its head, its tail: a slice of it -/
theorem ra_take {E : Elm P α} {w : World} {p : Option Addr} {n cap : Nat} {l : List α} (h : RA E w (.slice p n cap) l) (k : Nat) : RA E w (.slice p (min k l.length) cap) (l.take k) := by
  obtain ⟨q, c, e, h1, h2, hok, hr⟩ := h
  cases e
  refine ⟨_, _, by rw [List.length_take], by rw [List.length_take]; omega, h2, fun x hx => hok x (List.mem_of_mem_take hx), ?_⟩
  rcases hr with rfl | ⟨b, off, rfl, hb, hr⟩
  · exact .inl (by simp)
  · refine .inr ⟨b, off, rfl, hb, fun j u hj => hr j u ?_⟩
    rw [← List.take_append_drop k l, List.flatMap_append]
    rw [List.getElem?_append_left (List.getElem?_eq_some_iff.1 hj).1]; exact hj

theorem ra_drop {E : Elm P α} {w : World} {b off n cap : Nat} {l : List α} (h : RA E w (.slice (some ⟨b, off, none⟩) n cap) l) {k : Nat} (hk : k < l.length) : RA E w (.slice (some ⟨b, off + k * E.size, none⟩) (n - k) (cap - k)) (l.drop k) := by
  obtain ⟨q, c, e, h1, h2, hok, hr⟩ := h
  cases e
  refine ⟨_, _, by rw [List.length_drop], by rw [List.length_drop]; omega, by omega, fun x hx => hok x (List.mem_of_mem_drop hx), ?_⟩
  rcases hr with rfl | ⟨b', off', e, hb, hr⟩
  · simp at hk
  · cases e
    refine .inr ⟨b, _, rfl, hb, fun j u hj => ?_⟩
    have hlen : (l.take k).length = k := by rw [List.length_take]; omega
    have := hr (k * E.size + j) u (by
      rw [← List.take_append_drop k l, List.flatMap_append]
      rw [List.getElem?_append_right (by rw [flat_length E _ (fun x hx => hok x (List.mem_of_mem_take hx)), hlen]; omega), flat_length E _ (fun x hx => hok x (List.mem_of_mem_take hx)), hlen, show k * E.size + j - k * E.size = j by omega]
      exact hj)
    rwa [← Nat.add_assoc] at this

/-- one that came in -/
theorem elems_in {H : Type} {enc : TypeId × Value → H} {W : World} {n0 : Nat} {sp : Nat → Bool} {held : Bool} {cs : List Value} {x : DataW H × List MemPlace} (E : Elm P α)
    (hf : DataW.trod enc P W 0 sp held n0 E.t cs = some x) (hin : ∀ (n : Nat) (c : List Value) y, DataW.trod enc P W 0 sp held n E.e c = some y → c.length = E.size → ∃ a, c = E.enc a ∧ E.ok a) :
    ∃ (v : Value) (l : List α), cs = [v] ∧ RA E W v l := by
  obtain ⟨i0, hi0, _, hs0, _⟩ := info_parts E.hi
  have hce : P.cellsOf E.e = E.size := by unfold Program.cellsOf; rw [hi0]; exact hs0
  rcases Go.Deep.open_slice E.ht hf with ⟨hcs, _⟩ | ⟨a, vl, vc, m, n, D, Pl, hcs, _, hl, hm, hmm, hdx, hx⟩
  · exact ⟨_, [], hcs, ra_nil E W⟩
  · have hle : vl ≤ m := by rw [hmm]; split <;> omega
    rw [hce] at hx
    have pick : ∀ i, ∃ c : α, i < vl → W.cells? 0 (a.add (i * E.size)) E.size = some (E.enc c) ∧ E.ok c := by
      intro i
      by_cases hi : i < vl
      · obtain ⟨cs', h1, h2⟩ := hx i (by omega)
        obtain ⟨c, rfl, hw⟩ := hin _ _ _ h2 (World.cells?_some h1).2.1
        exact ⟨c, fun _ => ⟨h1, hw⟩⟩
      · exact ⟨default, fun h => absurd h hi⟩
    obtain ⟨f, hfp⟩ := Classical.axiomOfChoice pick
    have hgd : ∀ k, k < vl → ((List.range vl).map f).getD k default = f k := fun k hk => by simp [hk]
    have hok : AllOk E ((List.range vl).map f) := fun y hy => by
      obtain ⟨i, hi, rfl⟩ := List.mem_map.1 hy
      exact (hfp i (List.mem_range.1 hi)).2
    by_cases h0 : vl = 0
    · subst h0
      exact ⟨_, [], hcs, some a, vc, rfl, Nat.zero_le _, hm, (fun _ h => by cases h), .inl rfl⟩
    · obtain ⟨b, off, spot⟩ := a
      have hpos := E.pos
      have e0 := (World.cells?_some (hfp 0 (by omega)).1).2.2 0 hpos
      rw [List.getElem?_eq_getElem (by rw [E.len _ (hfp 0 (by omega)).2]; exact hpos)] at e0
      have hspot : spot = none := by
        have := World.cell?_spot e0
        simpa [Addr.add] using this
      subst hspot
      refine ⟨_, (List.range vl).map f, hcs, _, vc, by simp, by simpa using hl, hm, hok, .inr ⟨b, off, rfl, ?_, fun q u hq => ?_⟩⟩
      · simpa [Addr.add] using World.block_lt_of_cell? W _ e0
      · have hql : q < vl * E.size := by
          have := (List.getElem?_eq_some_iff.1 hq).1
          rw [flat_length E _ hok] at this
          simpa using this
        have hk : q / E.size < vl := Nat.div_lt_of_lt_mul (by rw [Nat.mul_comm]; exact hql)
        have hj := Nat.mod_lt q hpos
        have e : q / E.size * E.size + q % E.size = q := Nat.div_add_mod' q E.size
        rw [← e, flat_get E _ hok _ _ (by simpa using hk) hj, hgd _ hk] at hq
        obtain ⟨_, _, hcell⟩ := World.cells?_some (hfp _ hk).1
        have := hcell _ hj
        rw [hq, add_plain, add_plain] at this
        rw [← e, ← Nat.add_assoc]; exact this

/-- of a call's own -/
def OwnA (E : Elm P α) (B : Nat) (w : World) (v : Value) (l : List α) : Prop := w.ownsRow B E.e E.size v l.length (l.flatMap E.enc) ∧ AllOk E l
theorem OwnA.ra {E : Elm P α} {B : Nat} {w : World} {v : Value} {l : List α} (h : OwnA E B w v l) : RA E w v l := by
  obtain ⟨h, hok⟩ := h
  have h' := h
  obtain ⟨_, ⟨rfl, h0⟩ | ⟨g, cap, cur, rfl, _, hg, h1, h2, _⟩⟩ := h
  · rw [List.eq_nil_of_length_eq_zero h0]; exact ra_nil E w
  · refine ⟨_, cap, rfl, h1, h2, hok, .inr ⟨g, 0, rfl, (Array.getElem?_eq_some_iff.1 hg).1, fun j u hj => ?_⟩⟩
    have := h'.cells (g := g) rfl j u hj
    have e : (⟨g, 0, none⟩ : Addr).add j = ⟨g, 0 + j, none⟩ := Go.WideShapes.add_plain ..
    rw [e] at this; exact this
theorem OwnA.shape {E : Elm P α} {B : Nat} {w : World} {v : Value} {l : List α} (h : OwnA E B w v l) : ∃ p c, v = .slice p l.length c ∧ l.length ≤ c ∧ c ≤ maxLen := ra_shape h.ra
theorem OwnA.block {E : Elm P α} {B : Nat} {w : World} {v : Value} {l : List α} (h : OwnA E B w v l) (h0 : 0 < l.length) : ∃ g c, v = .slice (some ⟨g, 0, none⟩) l.length c ∧ B ≤ g ∧ g < w.heap.size ∧ l.length ≤ c ∧ c ≤ maxLen := by
  obtain ⟨⟨_, ⟨rfl, h1⟩ | ⟨g, cap, cur, rfl, hb, hg, h1, h2, _⟩⟩, _⟩ := h
  · omega
  · exact ⟨g, cap, rfl, hb, (Array.getElem?_eq_some_iff.1 hg).1, h1, h2⟩
theorem OwnA.below {E : Elm P α} {B : Nat} {w w' : World} {v : Value} {l : List α} (h : OwnA E B w v l) (hb : Below w.heap.size w w') : OwnA E B w' v l := by
  refine ⟨⟨h.1.1, h.1.2.imp id ?_⟩, h.2⟩
  rintro ⟨g, cap, cur, hv, h1, hg, r⟩
  exact ⟨g, cap, cur, hv, h1, (hb.block g (Array.getElem?_eq_some_iff.1 hg).1).trans hg, r⟩
theorem OwnA.chg {E : Elm P α} {D : List Nat} {B : Nat} {w w' : World} {v : Value} {l : List α} (h : OwnA E B w v l) (hc : Chg D w w') (hD : ∀ g, v.ownBlock = some g → g ∉ D) : OwnA E B w' v l := by
  refine ⟨⟨h.1.1, h.1.2.imp id ?_⟩, h.2⟩
  rintro ⟨g, cap, cur, hv, h1, hg, r⟩
  subst hv
  exact ⟨g, cap, cur, rfl, h1, (hc.block g (Array.getElem?_eq_some_iff.1 hg).1 (hD g rfl)).trans hg, r⟩
theorem OwnA.mono {E : Elm P α} {B B' : Nat} {w : World} {v : Value} {l : List α} (h : OwnA E B w v l) (hb : B' ≤ B) : OwnA E B' w v l :=
  ⟨⟨h.1.1, h.1.2.imp id fun ⟨g, cap, cur, hv, hg, r⟩ => ⟨g, cap, cur, hv, Nat.le_trans hb hg, r⟩⟩, h.2⟩
theorem own_nil_a (E : Elm P α) (B : Nat) (w : World) : OwnA E B w (.slice none 0 0) [] := ⟨World.ownsRow_nil _ _ _ _, fun _ h => by cases h⟩
theorem own_lit_a (E : Elm P α) (w : World) {l : List α} (hok : AllOk E l) (hl : l.length ≤ maxLen) : OwnA E w.heap.size (w.alloc (.cells (l.flatMap E.enc).toArray E.e)) (.slice (some ⟨w.heap.size, 0, none⟩) l.length l.length) l := by
  have h := World.ownsRow_lit (e := E.e) (size := E.size) (base := w.heap.size) w (l.flatMap E.enc).toArray l.length (Nat.le_refl _) hl (by simpa using flat_length E l hok)
  exact ⟨by simpa using h, hok⟩
theorem made_flat (E : Elm P α) {n : Nat} {x : α} (hx : E.ok x) (hz : E.enc x = E.z.cells.toList) : (madeCells E.z.cells (n * E.size)).toList = (List.replicate n x).flatMap E.enc := by
  have hok : AllOk E (List.replicate n x) := fun y hy => by rw [(List.mem_replicate.1 hy).2]; exact hx
  refine flat_ext E hok (by simp [madeCells]) fun k j hk hj => ?_
  have hk' : k < n := by simpa using hk
  have hlt : k * E.size + j < n * E.size := by
    have : (k + 1) * E.size ≤ n * E.size := Nat.mul_le_mul_right _ hk'
    rw [Nat.add_mul] at this; omega
  have em : (k * E.size + j) % E.size = j := by rw [Nat.add_comm, Nat.add_mul_mod_self_right]; exact Nat.mod_eq_of_lt hj
  have hjz : j < E.z.cells.size := by rw [E.hzs]; exact hj
  have eg : (List.replicate n x).getD k default = x := by simp [hk']
  rw [eg, hz, Array.getElem?_toList, Array.getElem?_toList, madeCells]
  rw [Array.getElem?_map, Array.getElem?_range, if_pos hlt, Option.map_some, E.hzs, em]
  rw [getElem!_pos E.z.cells j hjz, Array.getElem?_eq_getElem hjz]
theorem own_made_a (E : Elm P α) (w : World) (n : Nat) (hn : n ≤ maxLen) {x : α} (hx : E.ok x) (hz : E.enc x = E.z.cells.toList) : OwnA E w.heap.size (w.alloc (.cells (madeCells E.z.cells (n * E.size)) E.e)) (.slice (some ⟨w.heap.size, 0, none⟩) n n) (List.replicate n x) := by
  have hok : AllOk E (List.replicate n x) := fun y hy => by rw [(List.mem_replicate.1 hy).2]; exact hx
  have e := made_flat E (n := n) hx hz
  refine ⟨⟨flat_length E _ hok, .inr ⟨w.heap.size, n, _, by simp, Nat.le_refl _, heap_alloc_new w _, by simp, hn, size_madeCells _ _, ?_⟩⟩, hok⟩
  rw [List.length_replicate, ← e, List.take_of_length_le (by rw [Array.length_toList, size_madeCells]; exact Nat.le_refl _)]

/-- a cell of an element stored -/
theorem OwnA.setCell {E : Elm P α} {B g n c : Nat} {w : World} {l : List α} (h : OwnA E B w (.slice (some ⟨g, 0, none⟩) n c) l) {k j : Nat} {x : α} {u : Value} (hk : k < l.length) (hj : j < E.size) (hx : E.ok x) (he : E.enc x = (E.enc (l.getD k default)).set j u) :
    OwnA E B (w.setCell ⟨g, k * E.size + j, none⟩ u) (.slice (some ⟨g, 0, none⟩) n c) (l.set k x) := by
  have hn : n = l.length := by
    obtain ⟨p, c', e, _⟩ := h.shape
    cases e; rfl
  subst hn
  have hs := (World.ownsRow.stored (g := g) (cap := c) h.1 (k * E.size + j) u).1
  have hok : AllOk E (l.set k x) := fun y hy => by
    rcases List.mem_or_eq_of_mem_set hy with hy | rfl
    · exact h.2 y hy
    · exact hx
  have e : (l.flatMap E.enc).set (k * E.size + j) u = (l.set k x).flatMap E.enc := by
    refine flat_ext E hok (by rw [List.length_set, List.length_set]; exact flat_length E l h.2) fun k' j' hk' hj' => ?_
    rw [List.length_set] at hk'
    rw [List.getElem?_set, flat_get E l h.2 _ _ hk' hj', flat_length E l h.2]
    have hlt : k * E.size + j < l.length * E.size := by
      have : (k + 1) * E.size ≤ l.length * E.size := Nat.mul_le_mul_right _ hk
      rw [Nat.add_mul] at this; omega
    by_cases hkk : k = k'
    · subst hkk
      have eg : (l.set k x).getD k default = x := by simp [hk]
      rw [eg, he, List.getElem?_set, E.len _ (h.2.at_ hk)]
      by_cases hjj : j = j'
      · subst hjj; rw [if_pos rfl, if_pos rfl, if_pos hlt, if_pos hj]
      · rw [if_neg (by omega), if_neg hjj]
    · have eg : (l.set k x).getD k' default = l.getD k' default := by simp [hkk]
      rw [eg, if_neg fun q => hkk ?_]
      have a := congrArg (· / E.size) q
      rw [Nat.mul_comm k, Nat.mul_comm k', Nat.mul_add_div E.pos, Nat.mul_add_div E.pos, Nat.div_eq_of_lt hj, Nat.div_eq_of_lt hj'] at a
      omega
  exact ⟨by rw [List.length_set, ← e]; exact hs, hok⟩
/-- a whole element stored -/
theorem OwnA.setElem {E : Elm P α} {B g n c : Nat} {w : World} {l : List α} (h : OwnA E B w (.slice (some ⟨g, 0, none⟩) n c) l) {k : Nat} {x : α} (hk : k < l.length) (hx : E.ok x) :
    OwnA E B (w.setCells g (k * E.size) (E.enc x)) (.slice (some ⟨g, 0, none⟩) n c) (l.set k x) := by
  have hok : AllOk E (l.set k x) := fun y hy => by
    rcases List.mem_or_eq_of_mem_set hy with hy | rfl
    · exact h.2 y hy
    · exact hx
  obtain ⟨⟨hl, h0 | ⟨g', cap, cur, e, hb, hg, hnc, hcm, hsz, htk⟩⟩, hal⟩ := h
  · cases h0.1
  cases e
  have hl2 := E.len x hx
  obtain ⟨cur', w1, w2, w3⟩ := Whole.setCells (E.enc x) (k * E.size) w cur (show Whole w g E.e cur from hg)
  have hlt : (k + 1) * E.size ≤ l.length * E.size := Nat.mul_le_mul_right _ hk
  have hcap : l.length * E.size ≤ c * E.size := Nat.mul_le_mul_right _ hnc
  have hcur : cur'.toList.length = c * E.size := by rw [Array.length_toList, w2, hsz]
  rw [Nat.add_mul] at hlt
  refine ⟨⟨by rw [flat_length E _ hok], .inr ⟨g, c, cur', by rw [List.length_set], hb, w1, by rw [List.length_set]; exact hnc, hcm, by rw [w2]; exact hsz, ?_⟩⟩, hok⟩
  rw [List.length_set]
  refine flat_ext E hok (by rw [List.length_take, hcur, List.length_set]; omega) fun k' j' hk' hj' => ?_
  rw [List.length_set] at hk'
  have hlt' : (k' + 1) * E.size ≤ l.length * E.size := Nat.mul_le_mul_right _ hk'
  rw [Nat.add_mul] at hlt'
  rw [List.getElem?_take, if_pos (by omega), Array.getElem?_toList, w3, hl2]
  by_cases hkk : k = k'
  · subst hkk
    rw [if_pos (by omega)]
    have eg : (l.set k x).getD k default = x := by simp [hk]
    rw [eg, show k * E.size + j' - k * E.size = j' by omega]
  · have eg : (l.set k x).getD k' default = l.getD k' default := by simp [hkk]
    have hap : ¬ (k * E.size ≤ k' * E.size + j' ∧ k' * E.size + j' < k * E.size + E.size ∧ k' * E.size + j' < cur.size) := by
      intro q
      rcases Nat.lt_or_gt_of_ne hkk with h1 | h1
      · have : (k + 1) * E.size ≤ k' * E.size := Nat.mul_le_mul_right _ h1
        rw [Nat.add_mul] at this; omega
      · have : (k' + 1) * E.size ≤ k * E.size := Nat.mul_le_mul_right _ h1
        rw [Nat.add_mul] at this; omega
    rw [if_neg hap, eg, ← flat_get E l hal _ _ hk' hj', ← htk, List.getElem?_take, if_pos (by omega), Array.getElem?_toList]
theorem OwnA.free {E : Elm P α} {B g n c : Nat} {w : World} {l : List α} (h : OwnA E B w (.slice (some ⟨g, 0, none⟩) n c) l) (j : Nat) : w.frozen? ⟨g, j, none⟩ = false := by
  have hn : n = l.length := by
    obtain ⟨p, c', e, _⟩ := h.shape
    cases e; rfl
  subst hn
  exact World.ownsRow.frozenAt (g := g) (cap := c) h.1 j

/-- append -/
theorem run_app_nil {P : Program} (w : World) (base : Nat) (t ty e : TypeId) (i : TypeInfo) (size : Nat) (ht : P.underlying t = some (.slice e)) (hi : P.info? e = some i)
    (v : Value) (n : Nat) (xs : List Value) (hown : w.ownsRow base e size v n xs) (c : Nat) : (Builtin.append_ #[t, t] ty #[v, .slice none 0 c]).run P w = .ok v w := by
  obtain ⟨_, ⟨rfl, rfl⟩ | ⟨g, cap, cur, rfl, _, _, hc, _⟩⟩ := hown <;> simp [Builtin.append_, run_underlying ht, sizeOf, typeInfo, Builtin.lenOf, Builtin.firstCells, storeCells, *]
theorem run_app (E : Elm P α) (B : Nat) (v : Value) (l : List α) (w : World) (hown : OwnA E B w v l) (u : Value) (r : List α) (hr : RA E w u r) (hlen : (l.length + r.length) * E.bytes ≤ 140737488355328) (hB : B ≤ w.heap.size) (ty : TypeId) :
    ∃ v' w', (Builtin.append_ #[E.t, E.t] ty #[v, u]).run P w = .ok v' w' ∧ OwnA E B w' v' (l ++ r) ∧ w.grownBy w' v.ownBlock ∧ (v'.ownBlock = v.ownBlock ∨ v'.ownBlock = some w.heap.size) := by
  obtain ⟨i0, hi, hz0, hz1, hz2⟩ := info_parts E.hi
  obtain ⟨A, c, rfl, h1, h2, hok, h3⟩ := hr
  have hok2 : AllOk E (l ++ r) := fun x hx => (List.mem_append.1 hx).elim (hown.2 x) (hok x)
  have fin : ∀ w' v', w'.ownsRow B E.e E.size v' (l.length + r.length) (l.flatMap E.enc ++ r.flatMap E.enc) → OwnA E B w' v' (l ++ r) := fun w' v' h =>
    ⟨by rw [List.length_append, List.flatMap_append]; exact h, hok2⟩
  cases A with
  | none =>
    have hr0 : r = [] := by
      rcases h3 with h3 | ⟨b, off, h, _⟩
      · exact h3
      · cases h
    subst hr0
    exact ⟨v, w, run_app_nil w B _ ty _ i0 E.size E.ht hi v _ _ hown.1 c, by simpa using hown, World.grownBy.refl w _, .inl rfl⟩
  | some ad =>
    have hc : ∀ j u, (r.flatMap E.enc)[j]? = some u → w.cell? (ad.add j) = some u := by
      intro j u hu
      rcases h3 with h3 | ⟨b, off, h, _, hc⟩
      · subst h3; simp at hu
      · cases h
        have e : (⟨b, off, none⟩ : Addr).add j = ⟨b, off + j, none⟩ := Go.WideShapes.add_plain ..
        rw [e]; exact hc j u hu
    have hbb : l.length + r.length ≤ (l.length + r.length) * E.bytes := Nat.le_mul_of_pos_right _ E.bpos
    obtain ⟨v', w', hrun, g1, g2, _, g4⟩ := run_append_own_at (P := P) w B E.t ty E.e i0 E.z E.size E.bytes E.ht hi hz0 hz1 hz2 E.hzs E.pos v l.length (l.flatMap E.enc) hown.1 ad r.length c (r.flatMap E.enc) (flat_length E r hok) hc (flat_one E hok) (by unfold maxLen; omega) hlen hB
    exact ⟨v', w', hrun, fin _ _ g1, g2, g4⟩
variable {ops : Array Oper} {rest : List Oper} {o : Oper} {a : Act} {w : World} {Q : Exit → Act → World → Prop} {K : Act → World → Prop}
theorem wp_app (E : Elm P α) (s x : Operand) (ho : o.op = .call { callee := .builtin .append, args := #[s, x], argTypes := #[E.t, E.t] }) (B : Nat) (v : Value) (l : List α) (hs : a.eval s = v) (hown : OwnA E B w v l)
    (u : Value) (r : List α) (hx : a.eval x = u) (hr : RA E w u r) (hlen : (l.length + r.length) * E.bytes ≤ 140737488355328) (hB : B ≤ w.heap.size)
    (h : ∀ v' w', OwnA E B w' v' (l ++ r) → w.grownBy w' v.ownBlock → (v'.ownBlock = v.ownBlock ∨ v'.ownBlock = some w.heap.size) → K (a.put o.dst v') w') : o.wp P a w K Q := by
  obtain ⟨v', w', hrun, h2, h3, h4⟩ := run_app E B v l w hown u r hr hlen hB o.type
  unfold Oper.wp execOp
  simp only [ho, resolve, invoke, builtin, Sem.run_bind, Sem.run_pure, Result.andThen_ok, List.map_toArray, List.map_cons, List.map_nil, hs, hx, hrun]
  exact h v' w' h2 h3 h4
theorem list_app (E : Elm P α) (hgd : o.guard = none) (s x : Operand) (ho : o.op = .call { callee := .builtin .append, args := #[s, x], argTypes := #[E.t, E.t] }) (B : Nat) (v : Value) (l : List α) (hs : a.eval s = v) (hown : OwnA E B w v l)
    (u : Value) (r : List α) (hx : a.eval x = u) (hr : RA E w u r) (hlen : (l.length + r.length) * E.bytes ≤ 140737488355328) (hB : B ≤ w.heap.size)
    (h : ∀ v' w', OwnA E B w' v' (l ++ r) → w.grownBy w' v.ownBlock → (v'.ownBlock = v.ownBlock ∨ v'.ownBlock = some w.heap.size) → wpList P ops Q rest (a.put o.dst v') w') : wpList P ops Q (o :: rest) a w :=
  wpList_plain hgd fun _ hK => wp_app E s x ho B v l hs hown u r hx hr hlen hB fun v' w' h2 h3 h4 => hK _ _ (h v' w' h2 h3 h4)
theorem step_app (E : Elm P α) {F : Prop} (hgd : o.guard = none) (s x : Operand) (ho : o.op = .call { callee := .builtin .append, args := #[s, x], argTypes := #[E.t, E.t] }) (B : Nat) (v : Value) (l : List α) (hs : a.eval s = v) (hown : OwnA E B w v l)
    (u : Value) (r : List α) (hx : a.eval x = u) (hr : RA E w u r) (hlen : (l.length + r.length) * E.bytes ≤ 140737488355328) (hB : B ≤ w.heap.size)
    (h : ∀ v' w', OwnA E B w' v' (l ++ r) → w.grownBy w' v.ownBlock → (v'.ownBlock = v.ownBlock ∨ v'.ownBlock = some w.heap.size) → K (a.put o.dst v') w') : if Region.wanted o (yielded ops a.tmps) = true then o.wp P a w K Q else F := by
  rw [if_pos (by simp [Region.wanted, hgd])]
  exact wp_app E s x ho B v l hs hown u r hx hr hlen hB h
theorem OwnA.kept {E : Elm P α} {B : Nat} {w w' : World} {v : Value} {l : List α} {row : Option Nat} (h : OwnA E B w v l) (hg : w.grownBy w' row) (hne : v.ownBlock = none ∨ v.ownBlock ≠ row) : OwnA E B w' v l := ⟨h.1.kept hg hne, h.2⟩
theorem OwnA.lt {E : Elm P α} {B : Nat} {w : World} {v : Value} {l : List α} (h : OwnA E B w v l) : ∀ k, v.ownBlock = some k → B ≤ k ∧ k < w.heap.size := World.ownsRow.lt h.1
theorem OwnA.drew {E : Elm P α} {B : Nat} {w : World} {v : Value} {l : List α} (h : OwnA E B w v l) : OwnA E B w.drew v l := h
theorem OwnA.alloc {E : Elm P α} {B : Nat} {w : World} {v : Value} {l : List α} (h : OwnA E B w v l) (o : Obj) : OwnA E B (w.alloc o) v l := ⟨h.1.alloc o, h.2⟩
theorem below_app {E : Elm P α} {B : Nat} {w w1 w2 : World} {v : Value} {l : List α} (h : Below B w w1) (hB : B ≤ w1.heap.size) (ho : OwnA E B w1 v l) (hg : w1.grownBy w2 v.ownBlock) : Below B w w2 := h.grown hg hB (fun k hk => (ho.lt k hk).1)

/-- slices in a slice -/
def RAs (E : Elm P α) (R : Elm P Value) (w : World) (v : Value) (l : List (List α)) : Prop := ∃ vs, RA R w v vs ∧ vs.length = l.length ∧ ∀ k, k < l.length → RA E w (vs.getD k default) (l.getD k [])
theorem ras_below {E : Elm P α} {R : Elm P Value} {w w' : World} {v : Value} {l : List (List α)} (h : RAs E R w v l) (hb : Below w.heap.size w w') : RAs E R w' v l := by
  obtain ⟨vs, h1, h2, h3⟩ := h
  exact ⟨vs, ra_below h1 hb, h2, fun k hk => ra_below (h3 k hk) hb⟩
theorem ras_shape {E : Elm P α} {R : Elm P Value} {w : World} {v : Value} {l : List (List α)} (h : RAs E R w v l) : ∃ p cap, v = .slice p l.length cap ∧ l.length ≤ cap ∧ cap ≤ maxLen := by
  obtain ⟨vs, h1, h2, _⟩ := h
  rw [← h2]; exact ra_shape h1
/-- its k-th -/
theorem ras_at {E : Elm P α} {R : Elm P Value} {w : World} {p : Option Addr} {n cap : Nat} {l : List (List α)} (hR : R.enc = fun v => [v]) (hs : R.size = 1) (h : RAs E R w (.slice p n cap) l) (h0 : 0 < l.length) :
    ∃ b off, p = some ⟨b, off, none⟩ ∧ b < w.heap.size ∧ ∀ k, k < l.length → ∃ u, w.cell? ⟨b, off + k, none⟩ = some u ∧ RA E w u (l.getD k []) := by
  obtain ⟨vs, h1, h2, h3⟩ := h
  obtain ⟨b, off, rfl, hb, hr⟩ := ra_at h1 (by omega)
  refine ⟨b, off, rfl, hb, fun k hk => ⟨_, ?_, h3 k hk⟩⟩
  have := hr k (by omega) 0 (vs.getD k default) (by rw [hR]; rfl)
  rw [hs, Nat.mul_one, Nat.add_zero] at this
  exact this
theorem rows_in {H : Type} {enc : TypeId × Value → H} {W : World} {n0 : Nat} {sp : Nat → Bool} {held : Bool} {cs : List Value} {x : DataW H × List MemPlace} (E : Elm P α) (R : Elm P Value) (hR : R.enc = fun v => [v]) (hs : R.size = 1) (hok : ∀ v, v.oneCell' = true → R.ok v) (he : R.e = E.t)
    (hf : DataW.trod enc P W 0 sp held n0 R.t cs = some x) (hin : ∀ (n : Nat) (c : List Value) y, DataW.trod enc P W 0 sp held n E.e c = some y → c.length = E.size → ∃ a, c = E.enc a ∧ E.ok a) :
    ∃ (v : Value) (l : List (List α)), cs = [v] ∧ RAs E R W v l := by
  let R' : Elm P (Value × List α) := { t := R.t, e := R.e, size := R.size, bytes := R.bytes, z := R.z, enc := fun x => [x.1], ok := fun x => x.1.oneCell' = true ∧ RA E W x.1 x.2, ht := R.ht, hi := R.hi, hzs := R.hzs, pos := R.pos, bpos := R.bpos, len := fun a _ => by rw [hs]; rfl, one := fun a h u hu => by rw [List.mem_singleton.1 hu]; exact h.1 }
  obtain ⟨v, ls, e, p, cap, ev, h1, h2, h3, h4⟩ := elems_in R' hf (fun n c y hy hl => by
    have hy' : DataW.trod enc P W 0 sp held n E.t c = some y := by rw [← he]; exact hy
    obtain ⟨u, l, e, hr⟩ := elems_in E hy' hin
    obtain ⟨q, k, eu, _⟩ := ra_shape hr
    exact ⟨(u, l), e, by rw [eu]; rfl, hr⟩)
  have hmem : ∀ k, k < ls.length → ls.getD k default ∈ ls := fun k hk => by
    rw [List.getD_eq_getElem?_getD, List.getElem?_eq_getElem hk]; exact List.getElem_mem hk
  refine ⟨v, ls.map (·.2), e, ls.map (·.1), ⟨p, cap, by rw [List.length_map]; exact ev, by rw [List.length_map]; exact h1, h2, fun y hy => ?_, ?_⟩, by simp, fun k hk => ?_⟩
  · obtain ⟨z, hz, rfl⟩ := List.mem_map.1 hy
    exact hok _ (h3 z hz).1
  · rcases h4 with rfl | ⟨b, off, rfl, hb, hr⟩
    · exact .inl rfl
    · refine .inr ⟨b, off, rfl, hb, ?_⟩
      have ef : (ls.map (·.1)).flatMap R.enc = ls.flatMap R'.enc := by rw [hR, List.flatMap_map]
      rw [ef]; exact hr
  · have hk' : k < ls.length := by simpa using hk
    have a := (h3 _ (hmem k hk')).2
    have e1 : (ls.map (·.1)).getD k default = (ls.getD k default).1 := by simp [hk']
    have e2 : (ls.map (·.2)).getD k [] = (ls.getD k default).2 := by simp [hk']
    rw [e1, e2]; exact a
/-- how long one that came in can be -/
theorem slice_sized {H : Type} {enc : TypeId × Value → H} {W : World} {sp : Nat → Bool} {held : Bool} {t e : TypeId} {q : Option Addr} {n cap : Nat} {d : DataW H} {p : List MemPlace} {ts : List TypeId} {ds : List (DataW H)} {j : Nat}
    (ht : P.underlying t = some (.slice e)) (h : DataW.Trod enc P W 0 sp held t (.slice q n cap) d p) (htj : ts[j]? = some t) (hd : ds[j]? = some d) (hsz : (DataW.weightsEach P ts ds).all (· ≤ reachBytes) = true) : n * P.bytesOf e ≤ reachBytes := by
  obtain ⟨fuel, hf⟩ := h
  rcases Go.Deep.open_slice ht hf with ⟨hcs, _⟩ | ⟨a, vl, vc, m, k, D, Pl, hcs, _, _, _, _, hdx, _⟩
  · simp [Value.cells] at hcs
    rw [hcs.2.1, Nat.zero_mul]; exact Nat.zero_le _
  · simp [Value.cells] at hcs
    obtain ⟨_, rfl, _⟩ := hcs
    have hdd := (Prod.mk.inj hdx).1
    subst hdd
    have := sized_slice hsz htj hd ht
    simp only [List.length_map, List.length_range] at this
    exact Nat.le_trans (Nat.mul_le_mul_right _ (Nat.le_add_right _ _)) this
end
end Go.Proofs.Ytdnijdbhdlengaa
