/- texts written together: Ru Spl Sps Lnp Spc Spm Spb Lnc Lnd Lne Lnf Lnw -/
import Derived.Test.YtjghhcbiaklomaaMga
import Derived.Deep.Draws
import Derived.Deep.OwnRows
import Derived.Maps.AppendAt
import Derived.Deep.Slices
import Derived.Deep.Fields
import Derived.Handy
import Derived.OwnWalk
import Derived.RangeFuncBound
import Derived.RangeFuncBox
import Derived.RangeFuncNested
import Derived.RangeFuncLeaves
import Derived.RangeFuncCalls
import Derived.WalkKit
import Derived.OwnWalkIn
import Derived.TacticsInMore
import Derived.LoopNIn
import Derived.LoopIn
import Derived.Deep.RegionHeld3
import Derived.Deep.DeepCutAuto
import Derived.Deep.RegionLaw

/-
  Slices of words (uint64): how they read, how they came in, those of a call's own; append onto them.
-/
namespace Go.Proofs.Ytjghhcbiaklomaa
set_option maxRecDepth 100000
open Go.ChangeShapes Go.WideShapes Go.ChangeAt Go.RowKit

/-- a slice of ints that can be read: it holds l -/
def RU (w : World) (v : Value) (l : List Int) : Prop :=
  ∃ p cap, v = .slice p l.length cap ∧ l.length ≤ cap ∧ cap ≤ maxLen ∧ (l = [] ∨ ∃ b off, p = some ⟨b, off, none⟩ ∧ ∀ i, i < l.length → w.cell? ⟨b, off + i, none⟩ = some (.int .u64 (l.getD i 0)))
theorem ru_same {w w' : World} {v : Value} {l : List Int} (h : RU w v l) (hb : ∀ p : Addr, p.block < w.heap.size → w'.cell? p = w.cell? p) : RU w' v l := by
  obtain ⟨p, cap, rfl, h1, h2, h | ⟨b, off, rfl, hc⟩⟩ := h
  · exact ⟨p, cap, rfl, h1, h2, .inl h⟩
  · refine ⟨_, cap, rfl, h1, h2, .inr ⟨b, off, rfl, fun i hi => ?_⟩⟩
    have := hc i hi
    rw [hb _ (World.block_lt_of_cell? w _ this)]; exact this
theorem ru_below {w w' : World} {v : Value} {l : List Int} (h : RU w v l) (hb : Below w.heap.size w w') : RU w' v l := ru_same h fun _ hp => hb.cell hp
theorem ru_in {w : World} {v : Value} {l : List Int} (h : IntsIn .u64 w v l) : RU w v l := by
  obtain ⟨p, cap, rfl, h1, h2, _, ⟨rfl, _⟩ | ⟨b, off, rfl, _, hc⟩⟩ := h
  · exact ⟨p, cap, rfl, h1, h2, .inl rfl⟩
  · exact ⟨_, cap, rfl, h1, h2, .inr ⟨b, off, rfl, hc⟩⟩
theorem in_wf_u {w : World} {v : Value} {l : List Int} (h : IntsIn .u64 w v l) : ∀ n ∈ l, (Lit.int .u64 n).wf = true := by
  obtain ⟨p, cap, rfl, h1, h2, h3, _⟩ := h; exact h3
theorem ru_nil (w : World) : RU w (.slice none 0 0) [] := ⟨none, 0, rfl, Nat.le_refl _, Nat.zero_le _, .inl rfl⟩
theorem ru_some {w : World} {p : Option Addr} {n cap : Nat} {l : List Int} (h : RU w (.slice p n cap) l) (h0 : 0 < l.length) : ∃ b off, p = some ⟨b, off, none⟩ ∧ b < w.heap.size ∧ ∀ i, i < l.length → w.cell? ⟨b, off + i, none⟩ = some (.int .u64 (l.getD i 0)) := by
  obtain ⟨p', cap', e, _, _, h | ⟨b, off, rfl, hc⟩⟩ := h
  · subst h; cases h0
  · cases e; exact ⟨b, off, rfl, World.block_lt_of_cell? w _ (hc 0 h0), hc⟩
/-- a slice of ints of a call's own -/
def OwnU (B : Nat) (w : World) (v : Value) (l : List Int) : Prop := w.ownsRow B 37 1 v l.length (l.map uv)
theorem OwnU.ru {B : Nat} {w : World} {v : Value} {l : List Int} (h : OwnU B w v l) : RU w v l := by
  have h' : w.ownsRow B 37 1 v l.length (l.map uv) := h
  obtain ⟨_, ⟨rfl, h0⟩ | ⟨g, cap, cur, rfl, _, _, h1, h2, _⟩⟩ := h
  · rw [List.eq_nil_of_length_eq_zero h0]; exact ru_nil w
  · refine ⟨_, cap, rfl, h1, h2, .inr ⟨g, 0, rfl, fun i hi => ?_⟩⟩
    have := h'.cells (g := g) rfl i (uv (l.getD i 0)) (by simp [hi])
    have e : (⟨g, 0, none⟩ : Addr).add i = ⟨g, 0 + i, none⟩ := Go.WideShapes.add_plain ..
    rw [e] at this; exact this
theorem OwnU.shape {B : Nat} {w : World} {v : Value} {l : List Int} (h : OwnU B w v l) : ∃ p c, v = .slice p l.length c := by
  obtain ⟨p, c, h, _⟩ := h.ru; exact ⟨p, c, h⟩
theorem OwnU.mono {B B' : Nat} {w : World} {v : Value} {l : List Int} (h : OwnU B w v l) (hb : B' ≤ B) : OwnU B' w v l :=
  ⟨h.1, h.2.imp id fun ⟨g, cap, cur, hv, hg, r⟩ => ⟨g, cap, cur, hv, Nat.le_trans hb hg, r⟩⟩
theorem OwnU.far {B : Nat} {w : World} {v : Value} {l : List Int} (h : OwnU B w v l) {p : Addr} (hp : p.block < B) (u : Value) : OwnU B (w.setCell p u) v l := ownsRow_setCell_below h hp u
theorem info_u64 : (Try.prog.info? 37).map (fun i => (i.zero, i.size, i.bytes)) = some (some (.int .u64 0), 1, 8) := by kernel_rfl

theorem uv_one (l : List Int) : ∀ u ∈ l.map uv, u.oneCell' = true := by
  intro u hu; obtain ⟨x, _, rfl⟩ := List.mem_map.1 hu; rfl
/-- nothing behind it -/
theorem run_app_none_u {P : Program} (w : World) (base : Nat) (t ty e : TypeId) (i : TypeInfo) (size : Nat) (ht : P.underlying t = some (.slice e)) (hi : P.info? e = some i)
    (v : Value) (n : Nat) (xs : List Value) (hown : w.ownsRow base e size v n xs) (c : Nat) : (Builtin.append_ #[t, t] ty #[v, .slice none 0 c]).run P w = .ok v w := by
  obtain ⟨_, ⟨rfl, rfl⟩ | ⟨g, cap, cur, rfl, _, _, hc, _⟩⟩ := hown <;> simp [Builtin.append_, run_underlying ht, sizeOf, typeInfo, Builtin.lenOf, Builtin.firstCells, storeCells, *]
theorem run_app_u64 (B : Nat) (v : Value) (l : List Int) (w : World) (hown : OwnU B w v l) (u : Value) (r : List Int) (hr : RU w u r) (hlen : l.length + r.length ≤ 1000000) (hB : B ≤ w.heap.size) (ty : TypeId) :
    ∃ v' w', (Builtin.append_ #[92, 92] ty #[v, u]).run Try.prog w = .ok v' w' ∧ OwnU B w' v' (l ++ r) ∧ w.grownBy w' v.ownBlock ∧ (v'.ownBlock = v.ownBlock ∨ v'.ownBlock = some w.heap.size) := by
  obtain ⟨i0, hi, hz0, hz1, hz2⟩ := info_parts info_u64
  obtain ⟨A, c, rfl, h1, h2, h3⟩ := hr
  have fin : ∀ w' v', w'.ownsRow B 37 1 v' (l.length + r.length) (l.map uv ++ r.map uv) → OwnU B w' v' (l ++ r) := fun w' v' h => by
    unfold OwnU; rw [List.length_append, List.map_append]; exact h
  cases A with
  | none =>
    have hr0 : r = [] := by
      rcases h3 with h3 | ⟨b, off, h, _⟩
      · exact h3
      · cases h
    subst hr0
    exact ⟨v, w, run_app_none_u w B _ ty _ i0 1 Try.underlying92 hi v _ _ hown c, by simpa using hown, World.grownBy.refl w _, .inl rfl⟩
  | some ad =>
    have hc : ∀ j u, (r.map uv)[j]? = some u → w.cell? (ad.add j) = some u := by
      intro j u hu
      rcases h3 with h3 | ⟨b, off, h, hc⟩
      · subst h3; simp at hu
      · cases h
        have hj : j < r.length := by have := (List.getElem?_eq_some_iff.1 hu).1; simpa using this
        have e : (⟨b, off, none⟩ : Addr).add j = ⟨b, off + j, none⟩ := Go.WideShapes.add_plain ..
        rw [e, hc j hj]
        simp [hj] at hu
        rw [← hu]; simp [uv, hj]
    obtain ⟨v', w', hrun, g1, g2, _, g4⟩ := run_append_own_at (P := Try.prog) w B 92 ty 37 i0 (.int .u64 0) 1 8 Try.underlying92 hi hz0 hz1 hz2 rfl (by decide) v l.length (l.map uv) hown ad r.length c (r.map uv) (by simp) hc (uv_one r) (by unfold maxLen; omega) (by omega) hB
    exact ⟨v', w', hrun, fin _ _ g1, g2, g4⟩
section
variable {ops : Array Oper} {rest : List Oper} {o : Oper} {a : Act} {w : World} {Q : Exit → Act → World → Prop} {K : Act → World → Prop}
theorem wp_app_u64 (s x : Operand) (ho : o.op = .call { callee := .builtin .append, args := #[s, x], argTypes := #[92, 92] }) (B : Nat) (v : Value) (l : List Int) (hs : a.eval s = v) (hown : OwnU B w v l)
    (u : Value) (r : List Int) (hx : a.eval x = u) (hr : RU w u r) (hlen : l.length + r.length ≤ 1000000) (hB : B ≤ w.heap.size)
    (h : ∀ v' w', OwnU B w' v' (l ++ r) → w.grownBy w' v.ownBlock → (v'.ownBlock = v.ownBlock ∨ v'.ownBlock = some w.heap.size) → K (a.put o.dst v') w') : o.wp Try.prog a w K Q := by
  obtain ⟨v', w', hrun, h2, h3, h4⟩ := run_app_u64 B v l w hown u r hr hlen hB o.type
  unfold Oper.wp execOp
  simp only [ho, resolve, invoke, builtin, Sem.run_bind, Sem.run_pure, Result.andThen_ok, List.map_toArray, List.map_cons, List.map_nil, hs, hx, hrun]
  exact h v' w' h2 h3 h4
theorem list_app_u64 (hgd : o.guard = none) (s x : Operand) (ho : o.op = .call { callee := .builtin .append, args := #[s, x], argTypes := #[92, 92] }) (B : Nat) (v : Value) (l : List Int) (hs : a.eval s = v) (hown : OwnU B w v l)
    (u : Value) (r : List Int) (hx : a.eval x = u) (hr : RU w u r) (hlen : l.length + r.length ≤ 1000000) (hB : B ≤ w.heap.size)
    (h : ∀ v' w', OwnU B w' v' (l ++ r) → w.grownBy w' v.ownBlock → (v'.ownBlock = v.ownBlock ∨ v'.ownBlock = some w.heap.size) → wpList Try.prog ops Q rest (a.put o.dst v') w') : wpList Try.prog ops Q (o :: rest) a w :=
  wpList_plain hgd fun _ hK => wp_app_u64 s x ho B v l hs hown u r hx hr hlen hB fun v' w' h2 h3 h4 => hK _ _ (h v' w' h2 h3 h4)
theorem step_app_u64 {E : Prop} (hgd : o.guard = none) (s x : Operand) (ho : o.op = .call { callee := .builtin .append, args := #[s, x], argTypes := #[92, 92] }) (B : Nat) (v : Value) (l : List Int) (hs : a.eval s = v) (hown : OwnU B w v l)
    (u : Value) (r : List Int) (hx : a.eval x = u) (hr : RU w u r) (hlen : l.length + r.length ≤ 1000000) (hB : B ≤ w.heap.size)
    (h : ∀ v' w', OwnU B w' v' (l ++ r) → w.grownBy w' v.ownBlock → (v'.ownBlock = v.ownBlock ∨ v'.ownBlock = some w.heap.size) → K (a.put o.dst v') w') : if Region.wanted o (yielded ops a.tmps) = true then o.wp Try.prog a w K Q else E := by
  rw [if_pos (by simp [Region.wanted, hgd])]
  exact wp_app_u64 s x ho B v l hs hown u r hx hr hlen hB h
end
theorem own_lit_u (w : World) (l : List Int) (hl : l.length ≤ maxLen) : OwnU w.heap.size (w.alloc (.cells (l.map uv).toArray 37)) (.slice (some ⟨w.heap.size, 0, none⟩) l.length l.length) l := by
  have h := World.ownsRow_lit (e := 37) (size := 1) (base := w.heap.size) w (l.map uv).toArray l.length (Nat.le_refl _) hl (by simp)
  simpa [OwnU] using h
theorem ru_one (w : World) (x : Int) : RU (w.alloc (.cells #[.int .u64 x] 37)) (.slice (some ⟨w.heap.size, 0, none⟩) 1 1) [x] := (own_lit_u w [x] (by unfold maxLen; simp)).ru
theorem OwnU.block {B : Nat} {w : World} {v : Value} {l : List Int} (h : OwnU B w v l) (h0 : 0 < l.length) : ∃ g c, v = .slice (some ⟨g, 0, none⟩) l.length c ∧ B ≤ g ∧ g < w.heap.size ∧ l.length ≤ c ∧ c ≤ maxLen := by
  obtain ⟨_, ⟨rfl, h1⟩ | ⟨g, cap, cur, rfl, hb, hg, h1, h2, _⟩⟩ := h
  · omega
  · exact ⟨g, cap, rfl, hb, (Array.getElem?_eq_some_iff.1 hg).1, h1, h2⟩
theorem OwnU.stored {B g c : Nat} {w : World} {n : Nat} {l : List Int} (h : OwnU B w (.slice (some ⟨g, 0, none⟩) n c) l) (j : Nat) (x : Int) : OwnU B (w.setCell ⟨g, j, none⟩ (.int .u64 x)) (.slice (some ⟨g, 0, none⟩) n c) (l.set j x) := by
  have hn : n = l.length := by
    obtain ⟨p, c', e⟩ := h.shape
    cases e; rfl
  subst hn
  have := World.ownsRow.stored (g := g) (cap := c) h j (uv x)
  unfold OwnU
  rw [List.length_set, List.map_set]
  exact this.1
theorem OwnU.cells {B : Nat} {w : World} {g n c : Nat} {l : List Int} (h : OwnU B w (.slice (some ⟨g, 0, none⟩) n c) l) {j : Nat} (hj : j < l.length) : w.cell? ⟨g, j, none⟩ = some (.int .u64 (l.getD j 0)) ∧ w.frozen? ⟨g, j, none⟩ = false := by
  have hn : n = l.length := by
    obtain ⟨p, c', e⟩ := h.shape
    cases e; rfl
  subst hn
  refine ⟨?_, World.ownsRow.frozenAt (g := g) (cap := c) h j⟩
  rw [World.ownsRow.cellAt (g := g) (cap := c) h j (by omega)]
  simp [hj, uv]
theorem OwnU.below {B : Nat} {w w' : World} {v : Value} {l : List Int} (h : OwnU B w v l) (hb : Below w.heap.size w w') : OwnU B w' v l := by
  refine ⟨h.1, h.2.imp id ?_⟩
  rintro ⟨g, cap, cur, hv, h1, hg, r⟩
  exact ⟨g, cap, cur, hv, h1, (hb.block g (Array.getElem?_eq_some_iff.1 hg).1).trans hg, r⟩
theorem own_nil_u (B : Nat) (w : World) : OwnU B w (.slice none 0 0) [] := World.ownsRow_nil _ _ _ _
theorem own_made_u (w : World) (n : Nat) (hn : n ≤ maxLen) : OwnU w.heap.size (w.alloc (.cells (madeCells #[.int .u64 0] n) 37)) (.slice (some ⟨w.heap.size, 0, none⟩) n n) (List.replicate n 0) := by
  have e : (madeCells #[.int .u64 0] n).toList = (List.replicate n 0).map uv := by rw [toList_madeCells_one]; simp [uv]
  refine ⟨by simp, .inr ⟨w.heap.size, n, madeCells #[.int .u64 0] n, by simp, Nat.le_refl _, heap_alloc_new w _, by simp, hn, by rw [← Array.length_toList, e]; simp, by rw [e]; simp⟩⟩
/-- append([]uint64{}, t...): a copy, of the call's own -/
theorem own_fresh_u (w : World) : OwnU w.heap.size (w.alloc (.cells #[] 37)) (.slice (some ⟨w.heap.size, 0, none⟩) 0 0) [] := own_lit_u w [] (Nat.zero_le _)
theorem below_app_u {B : Nat} {w w1 w2 : World} {v : Value} {l : List Int} (h : Below B w w1) (hB : B ≤ w1.heap.size) (ho : OwnU B w1 v l) (hg : w1.grownBy w2 v.ownBlock) : Below B w w2 := h.grown hg hB (fun k hk => (World.ownsRow.lt ho k hk).1)
end Go.Proofs.Ytjghhcbiaklomaa

/-
  A table of spare lines in plain words: which may be one, the line that stands for a slot, the first one that is nobody's, how many are.
-/
namespace Go.Proofs.Ytjghhcbiaklomaa
set_option maxRecDepth 100000

/-- the word at place k is no more than the dead one's, and none is behind a nought -/
def Good (l : List Int) (s : Int) (k : Nat) : Prop := l.getD k 0 ≤ s + 1 ∧ ¬ (0 < k ∧ ¬ l.getD k 0 = 0 ∧ l.getD (k - 1) 0 = 0)
/-- it can be a table of s slots -/
def MayT (l : List Int) (s : Int) : Prop := 1 ≤ s ∧ ∀ k, k < l.length → Good l s k
instance (l : List Int) (s : Int) : Decidable (MayT l s) := by unfold MayT Good; exact inferInstance
/-- whether it can be a table of s slots -/
def mayT (l : List Int) (s : Int) : Bool := decide (MayT l s)
/-- the line that stands for slot a, by the first n words -/
def plT (l : List Int) (s a : Int) : Nat → Int
  | 0 => a
  | n + 1 => if l.getD n 0 = a + 1 then s + n else plT l s a n
theorem plT_hit {l : List Int} {s a : Int} {n : Nat} (h : l.getD n 0 = a + 1) : plT l s a (n + 1) = s + n := by rw [plT, if_pos h]
theorem plT_miss {l : List Int} {s a : Int} {n : Nat} (h : ¬ l.getD n 0 = a + 1) : plT l s a (n + 1) = plT l s a n := by rw [plT, if_neg h]
theorem plT_none {l : List Int} {s a : Int} : ∀ {n : Nat}, (∀ k, k < n → ¬ l.getD k 0 = a + 1) → plT l s a n = a
  | 0, _ => rfl
  | n + 1, h => by rw [plT_miss (h n (by omega)), plT_none fun k hk => h k (by omega)]
theorem plT_last {l : List Int} {s a : Int} : ∀ {n k : Nat}, k < n → l.getD k 0 = a + 1 → (∀ j, k < j → j < n → ¬ l.getD j 0 = a + 1) → plT l s a n = s + k
  | 0, _, hk, _, _ => by omega
  | n + 1, k, hk, h, hj => by
    by_cases e : k = n
    · subst e; exact plT_hit h
    · rw [plT_miss (hj n (by omega) (by omega)), plT_last (by omega) h fun j h1 h2 => hj j h1 (by omega)]
/-- what it is: the slot's own line and no word says so, or a spare one and its word is the last that says so -/
theorem plT_is (l : List Int) (s a : Int) : ∀ n : Nat, (plT l s a n = a ∧ ∀ k, k < n → ¬ l.getD k 0 = a + 1) ∨ ∃ k : Nat, k < n ∧ plT l s a n = s + k ∧ l.getD k 0 = a + 1
  | 0 => .inl ⟨rfl, fun k hk => by omega⟩
  | n + 1 => by
    by_cases h : l.getD n 0 = a + 1
    · exact .inr ⟨n, by omega, plT_hit h, h⟩
    · rw [plT_miss h]
      rcases plT_is l s a n with ⟨e, g⟩ | ⟨k, hk, e, g⟩
      · refine .inl ⟨e, fun k hk => ?_⟩
        by_cases hkn : k = n
        · subst hkn; exact h
        · exact g k (by omega)
      · exact .inr ⟨k, by omega, e, g⟩
/-- the line that stands for slot a; -1 where there is no such slot -/
def placeT (l : List Int) (s a : Int) : Int := if 0 ≤ a ∧ a < s then plT l s a l.length else -1
/-- the first nought's place among all, or the length -/
def zeroT (l : List Int) : Nat := l.findIdx (fun x => decide (x = 0))
def nextT (l : List Int) : Int := if zeroT l < l.length then (zeroT l : Int) else -1
theorem zeroT_before {l : List Int} {k : Nat} (h : k < zeroT l) : ¬ l.getD k 0 = 0 := by
  have h' : k < l.findIdx (fun x => decide (x = 0)) := h
  have hl : k < l.length := Nat.lt_of_lt_of_le h' List.findIdx_le_length
  have := List.not_of_lt_findIdx h'
  rw [List.getD_eq_getElem?_getD, List.getElem?_eq_getElem hl]
  exact of_decide_eq_false this
theorem zeroT_at {l : List Int} (h : zeroT l < l.length) : l.getD (zeroT l) 0 = 0 := by
  have := of_decide_eq_true (List.findIdx_getElem (xs := l) (p := fun x => decide (x = 0)) (w := h))
  rw [List.getD_eq_getElem?_getD, List.getElem?_eq_getElem h]
  exact this
theorem zeroT_le (l : List Int) : zeroT l ≤ l.length := List.findIdx_le_length
theorem zeroT_eq {l : List Int} {k : Nat} (hk : k < l.length) (h0 : l.getD k 0 = 0) (h : ∀ j, j < k → ¬ l.getD j 0 = 0) : zeroT l = k := by
  rcases Nat.lt_trichotomy (zeroT l) k with hl | hl | hl
  · exact absurd (zeroT_at (by omega)) (h _ hl)
  · exact hl
  · exact absurd h0 (zeroT_before hl)
theorem zeroT_none {l : List Int} (h : ∀ j, j < l.length → ¬ l.getD j 0 = 0) : zeroT l = l.length := by
  have := zeroT_le l
  by_cases e : zeroT l < l.length
  · exact absurd (zeroT_at e) (h _ e)
  · omega
theorem nextT_at {l : List Int} {k : Nat} (hk : k < l.length) (h0 : l.getD k 0 = 0) (h : ∀ j, j < k → ¬ l.getD j 0 = 0) : nextT l = k := by rw [nextT, zeroT_eq hk h0 h, if_pos hk]
theorem nextT_none {l : List Int} (h : ∀ j, j < l.length → ¬ l.getD j 0 = 0) : nextT l = -1 := by rw [nextT, zeroT_none h, if_neg (by omega)]
theorem nextT_is (l : List Int) : (nextT l = -1 ∧ ∀ j, j < l.length → ¬ l.getD j 0 = 0) ∨ ∃ k : Nat, k < l.length ∧ nextT l = k ∧ l.getD k 0 = 0 ∧ ∀ j, j < k → ¬ l.getD j 0 = 0 := by
  by_cases h : zeroT l < l.length
  · exact .inr ⟨zeroT l, h, by rw [nextT, if_pos h], zeroT_at h, fun j hj => zeroT_before hj⟩
  · refine .inl ⟨by rw [nextT, if_neg h], fun j hj => zeroT_before (by omega)⟩
/-- how many of the first n are noughts -/
def lfT (l : List Int) : Nat → Nat
  | 0 => 0
  | n + 1 => lfT l n + (if l.getD n 0 = 0 then 1 else 0)
def leftT (l : List Int) : Nat := lfT l l.length
theorem lfT_hit {l : List Int} {n : Nat} (h : l.getD n 0 = 0) : lfT l (n + 1) = lfT l n + 1 := by rw [lfT, if_pos h]
theorem lfT_miss {l : List Int} {n : Nat} (h : ¬ l.getD n 0 = 0) : lfT l (n + 1) = lfT l n := by rw [lfT, if_neg h]; rfl
theorem lfT_le (l : List Int) : ∀ n, lfT l n ≤ n
  | 0 => Nat.le_refl _
  | n + 1 => by have := lfT_le l n; rw [lfT]; split <;> omega
theorem leftT_le (l : List Int) : leftT l ≤ l.length := lfT_le l _
/-- the word that tells that a line can be nobody's any more -/
def deadT (s : Int) : Int := if s < 1 then 0 else s + 1
theorem getD_setT {l : List Int} {i k : Nat} {x : Int} (hi : i < l.length) : (l.set i x).getD k 0 = if k = i then x else l.getD k 0 := by
  rw [List.getD_eq_getElem?_getD, List.getD_eq_getElem?_getD, List.getElem?_set]
  by_cases h : k = i
  · subst h; simp [hi]
  · rw [if_neg (fun e => h e.symm), if_neg h]
theorem good_mayT {l : List Int} {s : Int} (h1 : 1 ≤ s) (h : ∀ k, k < l.length → Good l s k) : mayT l s = true := decide_eq_true ⟨h1, h⟩
theorem mayT_few {l : List Int} {s : Int} (h1 : s < 1) : mayT l s = false := decide_eq_false fun h => by have := h.1; omega
theorem mayT_bad {l : List Int} {s : Int} {k : Nat} (hk : k < l.length) (h : ¬ Good l s k) : mayT l s = false := decide_eq_false fun g => h (g.2 k hk)
theorem mayT_iff {l : List Int} {s : Int} : mayT l s = true ↔ MayT l s := decide_eq_true_iff
end Go.Proofs.Ytjghhcbiaklomaa

/-
  A table, one word of it set: plain facts.
-/
namespace Go.Proofs.Ytjghhcbiaklomaa
set_option maxRecDepth 100000

/-- behind a nought all are -/
theorem zeros_behind {l : List Int} {s : Int} (h : MayT l s) {k : Nat} (h0 : l.getD k 0 = 0) : ∀ j, k ≤ j → j < l.length → l.getD j 0 = 0 := by
  intro j
  induction j with
  | zero => intro hk _; have e : k = 0 := by omega
            rw [e] at h0; exact h0
  | succ j ih =>
    intro hk hj
    by_cases e : k = j + 1
    · subst e; exact h0
    · have hz := ih (by omega) (by omega)
      have g := (h.2 (j + 1) hj).2
      exact Classical.byContradiction fun hne => g ⟨by omega, hne, by simpa using hz⟩
theorem mayT_set {l : List Int} {s x : Int} {k : Nat} (h : MayT l s) (hk : k < l.length) (h0 : l.getD k 0 = 0) (hb : ∀ j, j < k → ¬ l.getD j 0 = 0) (hs : x ≤ s + 1) : mayT (l.set k x) s = true := by
  refine good_mayT h.1 fun j hj => ?_
  rw [List.length_set] at hj
  unfold Good
  rw [getD_setT hk, getD_setT hk]
  by_cases e : j = k
  · subst e
    rw [if_pos rfl]
    refine ⟨hs, fun ⟨g1, _, g3⟩ => ?_⟩
    rw [if_neg (by omega)] at g3
    exact hb _ (by omega) g3
  · rw [if_neg e]
    refine ⟨(h.2 j hj).1, fun ⟨g1, g2, g3⟩ => ?_⟩
    by_cases e2 : j - 1 = k
    · exact g2 (zeros_behind h h0 j (by omega) hj)
    · rw [if_neg e2] at g3
      exact (h.2 j hj).2 ⟨g1, g2, g3⟩
theorem plT_congr {l l' : List Int} {s b : Int} : ∀ {n : Nat}, (∀ j, j < n → (l'.getD j 0 = b + 1 ↔ l.getD j 0 = b + 1)) → plT l' s b n = plT l s b n
  | 0, _ => rfl
  | n + 1, h => by
    have ih := plT_congr (s := s) (n := n) fun j hj => h j (by omega)
    rw [plT, plT, ih]
    by_cases e : l.getD n 0 = b + 1
    · rw [if_pos e, if_pos ((h n (by omega)).2 e)]
    · rw [if_neg e, if_neg (fun g => e ((h n (by omega)).1 g))]
theorem placeT_set_other {l : List Int} {s b x : Int} {k : Nat} (hk : k < l.length) (h0 : l.getD k 0 = 0) (hb : 0 ≤ b) (hx : ¬ x = b + 1) : placeT (l.set k x) s b = placeT l s b := by
  unfold placeT
  rw [List.length_set, plT_congr fun j hj => ?_]
  rw [getD_setT hk]
  by_cases e : j = k
  · subst e; rw [if_pos rfl]; constructor <;> intro g <;> omega
  · rw [if_neg e]
theorem placeT_set_own {l : List Int} {s a : Int} {k : Nat} (h : MayT l s) (hk : k < l.length) (h0 : l.getD k 0 = 0) (ha : 0 ≤ a) (has : a < s) : placeT (l.set k (a + 1)) s a = s + k := by
  unfold placeT
  rw [if_pos ⟨ha, has⟩, List.length_set]
  refine plT_last hk (by rw [getD_setT hk, if_pos rfl]) fun j h1 h2 => ?_
  rw [getD_setT hk, if_neg (by omega), zeros_behind h h0 j (by omega) h2]
  omega
theorem lfT_set {l : List Int} {x : Int} {k : Nat} (hk : k < l.length) (h0 : l.getD k 0 = 0) (hx : ¬ x = 0) : ∀ n, lfT l n = lfT (l.set k x) n + (if k < n then 1 else 0)
  | 0 => by simp [lfT]
  | n + 1 => by
    have ih := lfT_set hk h0 hx n
    rw [lfT, lfT, ih, getD_setT hk]
    by_cases e : n = k
    · subst e
      rw [if_pos rfl, if_neg hx, if_pos h0, if_neg (by omega), if_pos (by omega)]
    · rw [if_neg e]
      by_cases hkn : k < n
      · rw [if_pos hkn, if_pos (by omega : k < n + 1)]; omega
      · rw [if_neg hkn, if_neg (by omega : ¬ k < n + 1)]; omega
theorem leftT_set {l : List Int} {x : Int} {k : Nat} (hk : k < l.length) (h0 : l.getD k 0 = 0) (hx : ¬ x = 0) : leftT l = leftT (l.set k x) + 1 := by
  have := lfT_set hk h0 hx l.length
  rw [if_pos hk] at this
  unfold leftT
  rw [List.length_set]; exact this
theorem leftT_zero {l : List Int} (h : ∀ j, j < l.length → ¬ l.getD j 0 = 0) : leftT l = 0 := by
  have : ∀ n, n ≤ l.length → lfT l n = 0 := by
    intro n
    induction n with
    | zero => intro _; rfl
    | succ n ih => intro hn; rw [lfT_miss (h n (by omega)), ih (by omega)]
  exact this _ (Nat.le_refl _)

/-- n of p spare lines given to the slot whose word is x -/
def chainT (p n : Nat) (x : Int) : List Int := List.replicate n x ++ List.replicate (p - n) 0
theorem chainT_length {p n : Nat} {x : Int} (h : n ≤ p) : (chainT p n x).length = p := by simp [chainT]; omega
theorem chainT_getD {p n k : Nat} {x : Int} : (chainT p n x).getD k 0 = if k < n then x else 0 := by
  rw [chainT, List.getD_eq_getElem?_getD]
  by_cases h : k < n
  · rw [if_pos h, List.getElem?_append_left (by simpa using h), List.getElem?_replicate, if_pos h]; rfl
  · rw [if_neg h, List.getElem?_append_right (by simp; omega), List.getElem?_replicate]; split <;> rfl
theorem chainT_zero (p : Nat) (x : Int) : chainT p 0 x = List.replicate p 0 := by simp [chainT]
theorem chainT_set {p n : Nat} {x : Int} (h : n < p) : (chainT p n x).set n x = chainT p (n + 1) x := by
  refine List.ext_getElem (by simp [chainT]; omega) fun i h1 h2 => ?_
  have e1 : ((chainT p n x).set n x).getD i 0 = (chainT p (n + 1) x).getD i 0 := by
    rw [getD_setT (by rw [chainT_length (by omega)]; exact h), chainT_getD, chainT_getD]
    by_cases e : i = n
    · subst e; rw [if_pos rfl, if_pos (by omega)]
    · rw [if_neg e]
      by_cases hi : i < n
      · rw [if_pos hi, if_pos (by omega)]
      · rw [if_neg hi, if_neg (by omega)]
  simpa [List.getD_eq_getElem?_getD, List.getElem?_eq_getElem h1, List.getElem?_eq_getElem h2] using e1
theorem chainT_next {p n : Nat} {x : Int} (h : n < p) (hx : ¬ x = 0) : nextT (chainT p n x) = n :=
  nextT_at (by rw [chainT_length (by omega)]; exact h) (by rw [chainT_getD, if_neg (by omega)]) fun j hj => by rw [chainT_getD, if_pos hj]; exact hx
theorem chainT_full {p : Nat} {x : Int} (hx : ¬ x = 0) : nextT (chainT p p x) = -1 :=
  nextT_none fun j hj => by rw [chainT_length (Nat.le_refl _)] at hj; rw [chainT_getD, if_pos hj]; exact hx
theorem chainT_left {p n : Nat} {x : Int} (h : n ≤ p) (hx : ¬ x = 0) : leftT (chainT p n x) = p - n := by
  have : ∀ m, m ≤ p → lfT (chainT p n x) m = m - n := by
    intro m
    induction m with
    | zero => intro _; rw [lfT]; omega
    | succ m ih =>
      intro hm
      by_cases e : m < n
      · rw [lfT_miss (by rw [chainT_getD, if_pos e]; exact hx), ih (by omega)]; omega
      · rw [lfT_hit (by rw [chainT_getD, if_neg e]), ih (by omega)]; omega
  unfold leftT
  rw [chainT_length h]; exact this p (Nat.le_refl _)
theorem chainT_place {p n : Nat} {s a : Int} (h : n + 1 ≤ p) (ha : 0 ≤ a) (has : a < s) : placeT (chainT p (n + 1) (a + 1)) s a = s + n := by
  unfold placeT
  rw [if_pos ⟨ha, has⟩, chainT_length h]
  refine plT_last (by omega) (by rw [chainT_getD, if_pos (by omega)]) fun j h1 h2 => ?_
  rw [chainT_getD, if_neg (by omega)]; omega
theorem chainT_may {p n : Nat} {s a : Int} (ha : 0 ≤ a) (has : a < s) : mayT (chainT p n (a + 1)) s = true := by
  refine good_mayT (by omega) fun k _ => ⟨?_, ?_⟩
  · rw [chainT_getD]; split <;> omega
  · rw [chainT_getD, chainT_getD]
    rintro ⟨h0, h1, h2⟩
    by_cases e : k < n
    · rw [if_pos (by omega)] at h2; omega
    · rw [if_neg e] at h1; exact h1 rfl
end Go.Proofs.Ytjghhcbiaklomaa

/-
  Lines that don't fail, in plain words: the table in the registers, the line that stands for a slot, a Put and what it leaves.
-/
namespace Go.Proofs.Ytjghhcbiaklomaa
set_option maxRecDepth 100000

/-- the table, as it stands in the registers -/
def Nv.tb (s : Nv) (P : Nat) : List Int := (List.range P).map fun i => s.rg (3 + i)
theorem Nv.tb_length (s : Nv) (P : Nat) : (s.tb P).length = P := by simp [Nv.tb]
theorem Nv.tb_getD (s : Nv) {P k : Nat} (h : k < P) : (s.tb P).getD k 0 = s.rg (3 + k) := by simp [Nv.tb, h]
theorem Nv.tb_congr {s s' : Nv} (h : s'.rg = s.rg) (P : Nat) : s'.tb P = s.tb P := by simp [Nv.tb, h]
theorem Nv.tb_set {s s' : Nv} {P k : Nat} {x : Int} (hk : k < P) (h : s'.rg = upd s.rg (3 + k) x) : s'.tb P = (s.tb P).set k x := by
  refine list_ext (by simp [Nv.tb_length]) fun i hi => ?_
  rw [Nv.tb_length] at hi
  rw [Nv.tb_getD _ hi, getD_setT (by rw [Nv.tb_length]; exact hk), h, upd]
  by_cases e : i = k
  · subst e; rw [if_pos rfl, if_pos rfl]
  · rw [if_neg e, if_neg (by omega), Nv.tb_getD _ hi]

/-- what slot b holds -/
def hold (s : Nv) (S P b : Nat) : List Int := s.h (placeT (s.tb P) S b).toNat
/-- what Get, Left, Put tell and leave -/
def lgetE (s : Nv) (S : Nat) (a : Int) : Int := if 0 ≤ a ∧ a < S then (if s.dark then 2 else 0) else 1
def lleft (s : Nv) (P : Nat) : Nat := if s.dark then 0 else leftT (s.tb P)
def repl (S : Nat) (a : Int) (d : List Int) : Nat → List Int → Nv → Int × Nv
  | 0, _, s => (3, s)
  | n + 1, t, s =>
    if zeroT t < t.length then
      if s.putE ((S : Int) + (zeroT t : Int)) = 0 then
        ((s.put ((S : Int) + (zeroT t : Int)) d).setE (3 + (zeroT t : Int)), (s.put ((S : Int) + (zeroT t : Int)) d).set (3 + (zeroT t : Int)) (a + 1))
      else if s.putE ((S : Int) + (zeroT t : Int)) = 3 then
        if (s.put ((S : Int) + (zeroT t : Int)) d).setE (3 + (zeroT t : Int)) = 0 then
          repl S a d n (t.set (zeroT t) ((S : Int) + 1)) ((s.put ((S : Int) + (zeroT t : Int)) d).set (3 + (zeroT t : Int)) ((S : Int) + 1))
        else ((s.put ((S : Int) + (zeroT t : Int)) d).setE (3 + (zeroT t : Int)), (s.put ((S : Int) + (zeroT t : Int)) d).set (3 + (zeroT t : Int)) ((S : Int) + 1))
      else (s.putE ((S : Int) + (zeroT t : Int)), s.put ((S : Int) + (zeroT t : Int)) d)
    else (3, s)
def lput (S P : Nat) (a : Int) (d : List Int) (s : Nv) : Int × Nv :=
  if 0 ≤ a ∧ a < S then
    if s.dark then (2, s)
    else if s.putE (placeT (s.tb P) S a) = 3 then repl S a d (P + 1) (s.tb P) (s.put (placeT (s.tb P) S a) d)
    else (s.putE (placeT (s.tb P) S a), s.put (placeT (s.tb P) S a) d)
  else (1, s)

theorem could_old : ∀ (a b : List Int), a.length = b.length → could a b a = true
  | [], [], _ => rfl
  | x :: xs, y :: ys, h => by simp [could, could_old xs ys (by simpa using h)]
  | [], _ :: _, h => by simp at h
  | _ :: _, [], h => by simp at h
theorem could_new : ∀ (a b : List Int), a.length = b.length → could a b b = true
  | [], [], _ => rfl
  | x :: xs, y :: ys, h => by simp [could, could_new xs ys (by simpa using h)]
  | [], _ :: _, h => by simp at h
  | _ :: _, [], h => by simp at h
theorem upd_self {α : Type} (f : Nat → α) (i : Nat) : upd f i (f i) = f := by
  funext j; unfold upd; split
  · rename_i h; rw [h]
  · rfl

/-- what a Put leaves of a memory that has power -/
theorem put_cases {s : Nv} (ho : s.Ok) (hd : s.dark = false) {i : Nat} (hi : i < s.n) {d : List Int} (hl : d.length = 8) :
    (s.putE i = 0 ∧ (s.put i d).dark = false ∧ (s.put i d).h = upd s.h i d) ∨ (s.putE i = 3 ∧ (s.put i d).dark = false ∧ (s.put i d).h = s.h ∧ s.worn i = true) ∨
    (s.putE i = 2 ∧ s.comes = true ∧ (s.put i d).dark = true ∧ ∃ x, could (s.h i) d x = true ∧ (s.put i d).h = upd s.h i x) := by
  have hr : s.rdy (s.has i) = 0 := by simp [Nv.rdy, Nv.has_of hi, hd]
  have hL := ho.line i
  cases hg : s.goes
  · have hb : s.by_ = 255 := by simp [Nv.by_, hg]
    cases hw : s.worn i
    · left
      refine ⟨by simp [Nv.putE, hr, hw, Nv.told, hg], by simp [Nv.put, hr, hw, Nv.lay, Nv.tick, hd, hg], ?_⟩
      simp [Nv.put, hr, hw, Nv.lay, Nv.tick, hb, mix_whole _ _ hL hl]
    · right; left
      exact ⟨by simp [Nv.putE, hr, hw, hg], by simp [Nv.put, hr, hw, Nv.tick, hd, hg], by simp [Nv.put, hr, hw, Nv.tick], rfl⟩
  · have hc : s.comes = true := by simp only [Nv.goes, Bool.and_eq_true] at hg; exact hg.1
    right; right
    cases hw : s.worn i
    · refine ⟨by simp [Nv.putE, hr, hw, Nv.told, hg], hc, by simp [Nv.put, hr, hw, Nv.lay, Nv.tick, hg], _, could_mix _ _ s.by_ (hL.trans hl.symm), ?_⟩
      simp [Nv.put, hr, hw, Nv.lay, Nv.tick]
    · refine ⟨by simp [Nv.putE, hr, hw, Nv.told, hg], hc, by simp [Nv.put, hr, hw, Nv.tick, hg], _, could_old _ _ (hL.trans hl.symm), ?_⟩
      rw [upd_self]; simp [Nv.put, hr, hw, Nv.tick]
/-- and a Set -/
theorem set_cases {s : Nv} (hd : s.dark = false) {k : Nat} (hk : k < 35) (v : Int) :
    (s.setE k = 0 ∧ (s.set k v).dark = false ∧ (s.set k v).rg = upd s.rg k v) ∨
    (s.setE k = 2 ∧ s.comes = true ∧ (s.set k v).dark = true ∧ ((s.set k v).rg = upd s.rg k v ∨ (s.set k v).rg = s.rg)) := by
  have hb : hasR (k : Int) = true := by simp [hasR]; omega
  have hr : s.rdy (hasR (k : Int)) = 0 := by simp [Nv.rdy, hb, hd]
  cases hg : s.goes
  · have hy : s.by_ = 255 := by simp [Nv.by_, hg]
    left
    exact ⟨by simp [Nv.setE, hr, Nv.told, hg], by simp [Nv.set, hr, hy, Nv.tick, Nv.reg, hd, hg], by simp [Nv.set, hr, hy, Nv.tick, Nv.reg]⟩
  · have hc : s.comes = true := by simp only [Nv.goes, Bool.and_eq_true] at hg; exact hg.1
    right
    refine ⟨by simp [Nv.setE, hr, Nv.told, hg], hc, ?_, ?_⟩
    · simp only [Nv.set, hr, if_true]; split <;> simp [Nv.tick, Nv.reg, hg]
    · simp only [Nv.set, hr, if_true]; split
      · left; simp [Nv.tick, Nv.reg]
      · right; simp [Nv.tick]

/-- lines that may be, and have power -/
structure LOk (s : Nv) (S P : Nat) : Prop where
  ok : s.Ok
  n : s.n = S + P
  p : P ≤ 16
  may : mayT (s.tb P) S = true
  live : s.dark = false
theorem LOk.s1 {s : Nv} {S P : Nat} (h : LOk s S P) : 1 ≤ S := by have := (mayT_iff.1 h.may).1; omega

/-- the line that stands for a slot -/
theorem place_of {t : List Int} {S b : Nat} (hb : b < S) : (placeT t S b = (b : Int) ∧ ∀ k, k < t.length → ¬ t.getD k 0 = (b : Int) + 1) ∨ ∃ k : Nat, k < t.length ∧ placeT t S b = ((S + k : Nat) : Int) ∧ t.getD k 0 = (b : Int) + 1 := by
  unfold placeT
  rw [if_pos ⟨by omega, by omega⟩]
  rcases plT_is t S b t.length with h | ⟨k, hk, e, g⟩
  · exact .inl h
  · exact .inr ⟨k, hk, by rw [e]; omega, g⟩
theorem place_nat {t : List Int} {S b : Nat} (hb : b < S) : ∃ i : Nat, placeT t S b = (i : Int) ∧ i < S + t.length := by
  rcases place_of (t := t) hb with ⟨e, _⟩ | ⟨k, hk, e, _⟩
  · exact ⟨b, e, by omega⟩
  · exact ⟨S + k, e, by omega⟩
/-- no two have one -/
theorem place_apart {t : List Int} {S a b : Nat} (ha : a < S) (hb : b < S) (hne : b ≠ a) : (placeT t S b).toNat ≠ (placeT t S a).toNat := by
  rcases place_of (t := t) ha with ⟨e, _⟩ | ⟨k, hk, e, g⟩ <;> rcases place_of (t := t) hb with ⟨e2, _⟩ | ⟨k2, hk2, e2, g2⟩ <;> rw [e, e2] <;> intro h
  · omega
  · omega
  · omega
  · have : k = k2 := by omega
    subst this
    omega
/-- none stands on a line that is nobody's -/
theorem place_free {t : List Int} {S b k : Nat} (hb : b < S) (h0 : t.getD k 0 = 0) : (placeT t S b).toNat ≠ S + k := by
  rcases place_of (t := t) hb with ⟨e, _⟩ | ⟨j, hj, e, g⟩ <;> rw [e] <;> intro h
  · omega
  · have : j = k := by omega
    subst this
    omega

/-- what a Put of slot a leaves -/
structure Out (s s' : Nv) (S P a : Nat) (d : List Int) (e : Int) : Prop where
  ok : s'.Ok
  n : s'.n = s.n
  la : s'.la = s.la
  comes : s'.comes = s.comes
  may : mayT (s'.tb P) S = true
  oth : ∀ b, b < S → b ≠ a → hold s' S P b = hold s S P b
  own : (e = 0 ∧ s'.dark = false ∧ hold s' S P a = d) ∨ (e = 3 ∧ s'.dark = false ∧ leftT (s'.tb P) = 0 ∧ hold s' S P a = hold s S P a) ∨ (e = 2 ∧ s.comes = true ∧ could (hold s S P a) d (hold s' S P a) = true)
  left : leftT (s'.tb P) ≤ leftT (s.tb P)
theorem Out.trans {s s1 s' : Nv} {S P a : Nat} {d : List Int} {e : Int} (h : Out s1 s' S P a d e) (hn : s1.n = s.n) (hla : s1.la = s.la) (hc : s1.comes = s.comes) (hh : ∀ b, b < S → hold s1 S P b = hold s S P b) (ha : a < S) (hl : leftT (s1.tb P) ≤ leftT (s.tb P)) : Out s s' S P a d e := by
  refine ⟨h.ok, h.n.trans hn, h.la.trans hla, h.comes.trans hc, h.may, fun b hb hne => (h.oth b hb hne).trans (hh b hb), ?_, Nat.le_trans h.left hl⟩
  rw [← hh a ha, ← hc]; exact h.own

theorem set_nz {t : List Int} {k : Nat} {x : Int} (hk : k < t.length) (h0 : t.getD k 0 = 0) (hx : ¬ x = 0) : leftT (t.set k x) ≤ leftT t := by
  have := leftT_set hk h0 hx; omega
theorem zeroT_set {t : List Int} {x : Int} (hk : zeroT t < t.length) (hx : ¬ x = 0) : zeroT t < zeroT (t.set (zeroT t) x) := by
  rcases Nat.lt_or_ge (zeroT t) (zeroT (t.set (zeroT t) x)) with h | h
  · exact h
  · have h1 := zeroT_at (l := t.set (zeroT t) x) (by rw [List.length_set]; omega)
    rw [getD_setT hk] at h1
    split at h1
    · exact absurd h1 hx
    · exact absurd h1 (zeroT_before (by omega))

theorem repl_out (S P a : Nat) (d : List Int) (hd : d.length = 8) (ha : a < S) : ∀ (n : Nat) (s : Nv), LOk s S P → P < n + zeroT (s.tb P) →
    Out s (repl S a d n (s.tb P) s).2 S P a d (repl S a d n (s.tb P) s).1 ∧ (repl S a d n (s.tb P) s).2.c ≤ s.c + 2 * n
  | 0, s, _, h => by have := zeroT_le (s.tb P); rw [s.tb_length] at this; omega
  | n + 1, s, H, h => by
    have hM := mayT_iff.1 H.may
    have hT := s.tb_length P
    rw [repl]
    by_cases hz : zeroT (s.tb P) < (s.tb P).length
    · rw [if_pos hz]
      have z0 := zeroT_at hz
      have zb : ∀ j, j < zeroT (s.tb P) → ¬ (s.tb P).getD j 0 = 0 := fun j hj => zeroT_before hj
      have zs := fun x => zeroT_set (x := x) hz
      generalize zeroT (s.tb P) = k at *
      have hkP : k < P := by omega
      have e1 : (S : Int) + (k : Int) = ((S + k : Nat) : Int) := by omega
      have e2 : (3 : Int) + (k : Int) = ((3 + k : Nat) : Int) := by omega
      rw [e1, e2]
      have hi : S + k < s.n := by rw [H.n]; omega
      have hc := put_cases H.ok H.live hi hd
      have p1 := s.put_n ((S + k : Nat) : Int) d
      have p2 := s.put_la ((S + k : Nat) : Int) d
      have p3 := s.put_rg ((S + k : Nat) : Int) d
      have p4 := s.put_c ((S + k : Nat) : Int) d
      have p5 := s.put_comes ((S + k : Nat) : Int) d
      have p6 := H.ok.put hd ((S + k : Nat) : Int)
      generalize s.putE ((S + k : Nat) : Int) = pe at *
      generalize s.put ((S + k : Nat) : Int) d = s1 at *
      have t1 := Nv.tb_congr p3 P
      -- all slots' lines are others'
      have hh : ∀ x, s1.h = upd s.h (S + k) x → ∀ b, b < S → hold s1 S P b = hold s S P b := fun x hx b hb => by
        unfold hold; rw [t1, hx]; exact upd_other _ _ (place_free hb z0)
      have hh0 : s1.h = s.h → ∀ b, b < S → hold s1 S P b = hold s S P b := fun hx b hb => by unfold hold; rw [t1, hx]
      -- a register set
      have r1 := fun v => s1.set_n ((3 + k : Nat) : Int) v
      have r2 := fun v => s1.set_la ((3 + k : Nat) : Int) v
      have r3 := fun v => s1.set_h ((3 + k : Nat) : Int) v
      have r4 := fun v => s1.set_c ((3 + k : Nat) : Int) v
      have r5 := fun v => s1.set_comes ((3 + k : Nat) : Int) v
      have r6 := fun v => p6.set ((3 + k : Nat) : Int) v
      rcases hc with ⟨rfl, q1, q2⟩ | ⟨rfl, q1, q2, _⟩ | ⟨rfl, q0, q1, x, qx, q2⟩
      · rw [if_pos rfl]
        have hc2 := set_cases q1 (k := 3 + k) (by have := H.p; omega) ((a : Int) + 1)
        have hk0 := hh d q2
        generalize hse : s1.setE ((3 + k : Nat) : Int) = se at *
        replace r1 := r1 ((a : Int) + 1)
        replace r2 := r2 ((a : Int) + 1)
        replace r3 := r3 ((a : Int) + 1)
        replace r4 := r4 ((a : Int) + 1)
        replace r5 := r5 ((a : Int) + 1)
        replace r6 := r6 ((a : Int) + 1)
        generalize s1.set ((3 + k : Nat) : Int) ((a : Int) + 1) = s2 at *
        have hnew : s2.rg = upd s1.rg (3 + k) ((a : Int) + 1) → mayT (s2.tb P) S = true ∧ (∀ b, b < S → b ≠ a → hold s2 S P b = hold s S P b) ∧ hold s2 S P a = d ∧ leftT (s2.tb P) ≤ leftT (s.tb P) := fun hr => by
          have t2 := Nv.tb_set hkP hr
          rw [t1] at t2
          rw [t2]
          refine ⟨mayT_set hM (by omega) z0 zb (by omega), fun b hb hne => ?_, ?_, set_nz (by omega) z0 (by omega)⟩
          · rw [← hk0 b hb]
            unfold hold
            rw [t2, t1, placeT_set_other (by omega) z0 (by omega) (by omega), r3]
          · unfold hold
            rw [t2, placeT_set_own hM (by omega) z0 (by omega) (by omega), r3, q2]
            have : ((S : Int) + (k : Int)).toNat = S + k := by omega
            rw [this]; exact upd_same _ _ _
        have hold_ : s2.rg = s1.rg → mayT (s2.tb P) S = true ∧ (∀ b, b < S → hold s2 S P b = hold s S P b) ∧ leftT (s2.tb P) ≤ leftT (s.tb P) := fun hr => by
          have t2 := (Nv.tb_congr hr P).trans t1
          rw [t2]
          refine ⟨H.may, fun b hb => ?_, Nat.le_refl _⟩
          rw [← hk0 b hb]
          unfold hold; rw [t2, t1, r3]
        rcases hc2 with ⟨rfl, v1, v2⟩ | ⟨rfl, v0, v1, v2 | v2⟩
        · obtain ⟨g1, g2, g3, g4⟩ := hnew v2
          exact ⟨⟨r6, r1.trans p1, r2.trans p2, r5.trans p5, g1, g2, .inl ⟨rfl, v1, g3⟩, g4⟩, by dsimp only; omega⟩
        · obtain ⟨g1, g2, g3, g4⟩ := hnew v2
          refine ⟨⟨r6, r1.trans p1, r2.trans p2, r5.trans p5, g1, g2, .inr (.inr ⟨rfl, p5 ▸ v0, ?_⟩), g4⟩, by dsimp only; omega⟩
          dsimp only
          rw [g3]
          exact could_new _ _ ((H.ok.line _).trans hd.symm)
        · obtain ⟨g1, g2, g4⟩ := hold_ v2
          refine ⟨⟨r6, r1.trans p1, r2.trans p2, r5.trans p5, g1, fun b hb _ => g2 b hb, .inr (.inr ⟨rfl, p5 ▸ v0, ?_⟩), g4⟩, by dsimp only; omega⟩
          dsimp only
          rw [g2 a ha]
          exact could_old _ _ ((H.ok.line _).trans hd.symm)
      · rw [if_neg (by decide), if_pos rfl]
        have hc2 := set_cases q1 (k := 3 + k) (by have := H.p; omega) ((S : Int) + 1)
        have hk0 := hh0 q2
        generalize hse : s1.setE ((3 + k : Nat) : Int) = se at *
        replace r1 := r1 ((S : Int) + 1)
        replace r2 := r2 ((S : Int) + 1)
        replace r3 := r3 ((S : Int) + 1)
        replace r4 := r4 ((S : Int) + 1)
        replace r5 := r5 ((S : Int) + 1)
        replace r6 := r6 ((S : Int) + 1)
        generalize s1.set ((3 + k : Nat) : Int) ((S : Int) + 1) = s2 at *
        have hnew : s2.rg = upd s1.rg (3 + k) ((S : Int) + 1) → s2.tb P = (s.tb P).set k ((S : Int) + 1) ∧ mayT (s2.tb P) S = true ∧ (∀ b, b < S → hold s2 S P b = hold s S P b) ∧ leftT (s2.tb P) ≤ leftT (s.tb P) := fun hr => by
          have t2 := Nv.tb_set hkP hr
          rw [t1] at t2
          rw [t2]
          refine ⟨rfl, mayT_set hM (by omega) z0 zb (by omega), fun b hb => ?_, set_nz (by omega) z0 (by omega)⟩
          rw [← hk0 b hb]
          unfold hold
          rw [t2, t1, placeT_set_other (by omega) z0 (by omega) (by omega), r3]
        rcases hc2 with ⟨rfl, v1, v2⟩ | ⟨rfl, v0, v1, v2⟩
        · rw [if_pos rfl]
          obtain ⟨t2, g1, g2, g4⟩ := hnew v2
          rw [← t2]
          have L2 : LOk s2 S P := ⟨r6, by rw [r1, p1, H.n], H.p, g1, v1⟩
          have zs2 := zs ((S : Int) + 1) (by omega)
          rw [← t2] at zs2
          obtain ⟨o1, o2⟩ := repl_out S P a d hd ha n s2 L2 (by omega)
          exact ⟨o1.trans (r1.trans p1) (r2.trans p2) (r5.trans p5) g2 ha g4, by omega⟩
        · rw [if_neg (by decide)]
          have hall : mayT (s2.tb P) S = true ∧ (∀ b, b < S → hold s2 S P b = hold s S P b) ∧ leftT (s2.tb P) ≤ leftT (s.tb P) := by
            rcases v2 with v2 | v2
            · exact (hnew v2).2
            · have t2 := (Nv.tb_congr v2 P).trans t1
              rw [t2]
              refine ⟨H.may, fun b hb => ?_, Nat.le_refl _⟩
              rw [← hk0 b hb]
              unfold hold; rw [t2, t1, r3]
          obtain ⟨g1, g2, g4⟩ := hall
          refine ⟨⟨r6, r1.trans p1, r2.trans p2, r5.trans p5, g1, fun b hb _ => g2 b hb, .inr (.inr ⟨rfl, p5 ▸ v0, ?_⟩), g4⟩, by dsimp only; omega⟩
          dsimp only
          rw [g2 a ha]
          exact could_old _ _ ((H.ok.line _).trans hd.symm)
      · rw [if_neg (by decide), if_neg (by decide)]
        have hk0 := hh x q2
        refine ⟨⟨p6, p1, p2, p5, by rw [t1]; exact H.may, fun b hb _ => hk0 b hb, .inr (.inr ⟨rfl, q0, ?_⟩), by rw [t1]; exact Nat.le_refl _⟩, by dsimp only; omega⟩
        dsimp only
        rw [hk0 a ha]
        exact could_old _ _ ((H.ok.line _).trans hd.symm)
    · rw [if_neg hz]
      have hl0 : leftT (s.tb P) = 0 := leftT_zero fun j hj => zeroT_before (by omega)
      exact ⟨⟨H.ok, rfl, rfl, rfl, H.may, fun _ _ _ => rfl, .inr (.inl ⟨rfl, H.live, hl0, rfl⟩), Nat.le_refl _⟩, by dsimp only; omega⟩

theorem lput_out {S P a : Nat} {d : List Int} {s : Nv} (H : LOk s S P) (hd : d.length = 8) (ha : a < S) : Out s (lput S P a d s).2 S P a d (lput S P a d s).1 ∧ (lput S P a d s).2.c ≤ s.c + 40 := by
  unfold lput
  rw [if_pos ⟨by omega, by omega⟩, H.live]
  simp only [Bool.false_eq_true, if_false]
  have hT := s.tb_length P
  have hH := H.ok.line (placeT (s.tb P) S a).toNat
  obtain ⟨i, ei, hi⟩ := place_nat (t := s.tb P) ha
  have hap : ∀ b, b < S → b ≠ a → (placeT (s.tb P) S b).toNat ≠ i := fun b hb hne => by
    have := place_apart (t := s.tb P) ha hb hne
    rw [ei] at this; simpa using this
  have hoa : hold s S P a = s.h i := by unfold hold; rw [ei]; rfl
  rw [ei]
  have hin : i < s.n := by rw [H.n]; omega
  have hc := put_cases H.ok H.live hin hd
  have p1 := s.put_n (i : Int) d
  have p2 := s.put_la (i : Int) d
  have p3 := s.put_rg (i : Int) d
  have p4 := s.put_c (i : Int) d
  have p5 := s.put_comes (i : Int) d
  have p6 := H.ok.put hd (i : Int)
  generalize s.putE (i : Int) = pe at *
  generalize s.put (i : Int) d = s1 at *
  have t1 := Nv.tb_congr p3 P
  have ha1 : hold s1 S P a = s1.h i := by unfold hold; rw [t1, ei]; rfl
  have hoth : ∀ x, s1.h = upd s.h i x → ∀ b, b < S → b ≠ a → hold s1 S P b = hold s S P b := fun x hx b hb hne => by
    unfold hold; rw [t1, hx]; exact upd_other _ _ (hap b hb hne)
  rcases hc with ⟨rfl, q1, q2⟩ | ⟨rfl, q1, q2, _⟩ | ⟨rfl, q0, q1, x, qx, q2⟩
  · rw [if_neg (by decide)]
    exact ⟨⟨p6, p1, p2, p5, by rw [t1]; exact H.may, hoth d q2, .inl ⟨rfl, q1, by rw [ha1, q2]; exact upd_same _ _ _⟩, by rw [t1]; exact Nat.le_refl _⟩, by dsimp only; omega⟩
  · rw [if_pos rfl, ← t1]
    have L1 : LOk s1 S P := ⟨p6, p1.trans H.n, H.p, by rw [t1]; exact H.may, q1⟩
    obtain ⟨o1, o2⟩ := repl_out S P a d hd ha (P + 1) s1 L1 (by omega)
    have := H.p
    exact ⟨o1.trans p1 p2 p5 (fun b hb => by unfold hold; rw [t1, q2]) ha (by rw [t1]; exact Nat.le_refl _), by omega⟩
  · rw [if_neg (by decide)]
    refine ⟨⟨p6, p1, p2, p5, by rw [t1]; exact H.may, hoth x q2, .inr (.inr ⟨rfl, q0, ?_⟩), by rw [t1]; exact Nat.le_refl _⟩, by dsimp only; omega⟩
    dsimp only
    rw [ha1, hoa, q2, upd_same]; exact qx
end Go.Proofs.Ytjghhcbiaklomaa

/-
  Contracts of package spare's May, Dead, word, line, Next, Left and of the reference's MayTable, NextSpare, LeftSpare, Place, over slices of words.
-/
namespace Go.Proofs.Ytjghhcbiaklomaa
set_option maxRecDepth 100000
open Go.RowKit

theorem word_any (a : Int) (w : World) (h0 : 0 ≤ a) (h1 : a < 9223372036854775808) : Calls Try.prog 73 #[.int .i64 a] w fun e w' => e = .returned (.int .u64 (a + 1)) ∧ w = w' := by
  have e1 : IntKind.u64.wrap a = a := by simp [IntKind.wrap, IntKind.signed, IntKind.bits]; omega
  have e2 : IntKind.u64.wrap (a + 1) = a + 1 := by simp [IntKind.wrap, IntKind.signed, IntKind.bits]; omega
  go_enter Try.func73, Try.ntmps73
  go_wp2_with fail
  go_ret
  exact ⟨rfl, rfl⟩

theorem line_any (s p : Int) (w : World) (h0 : 0 ≤ s) (h1 : 0 ≤ p) (h2 : s + p < 9223372036854775808) : Calls Try.prog 74 #[.int .i64 s, .int .i64 p] w fun e w' => e = .returned (.int .i64 (s + p)) ∧ w = w' := by
  have e1 : IntKind.i64.wrap (9223372036854775807 - s) = 9223372036854775807 - s := IntWalk.i64_in _ (by omega)
  have e2 : IntKind.i64.wrap (s + p) = s + p := IntWalk.i64_in _ (by omega)
  have e3 : ¬ (9223372036854775807 - s < p) := by omega
  go_enter Try.func74, Try.ntmps74
  go_wp2_with fail
  go_ret
  exact ⟨rfl, rfl⟩

theorem dead_any (s : Int) (w : World) (h : (Lit.int .i64 s).wf = true) : Calls Try.prog 66 #[.int .i64 s] w fun e w' => e = .returned (.int .u64 (deadT s)) ∧ w = w' := by
  have hs : -9223372036854775808 ≤ s ∧ s ≤ 9223372036854775807 := by simpa [Lit.wf, IntKind.min, IntKind.max, IntKind.signed, IntKind.bits] using h
  clear h
  by_cases c : s < 1
  · rw [show deadT s = 0 from if_pos c]
    go_enter Try.func66, Try.ntmps66
    go_wp2
    go_ret
    exact ⟨rfl, rfl⟩
  · rw [show deadT s = s + 1 from if_neg c]
    go_enter Try.func66, Try.ntmps66
    go_wp2_with fail
    refine (word_any s w (by omega) (by omega)).mono ?_; rintro e w' ⟨rfl, rfl⟩
    go_wp2_with fail
    go_ret
    exact ⟨rfl, rfl⟩





theorem ix_nil (p : Option Addr) (cap : Nat) (w : World) : Calls Try.prog 79 #[.slice p 0 cap, .int .u64 0] w fun e w' => e = .returned (.int .i64 (-1)) ∧ w = w' := by
  go_enter Try.func79, Try.ntmps79
  go_wp2
  go_rounds 1
  go_ret
  exact ⟨rfl, rfl⟩

set_option maxHeartbeats 400000 in
theorem ix_some (l : List Int) (b off cap : Nat) (w : World) (hm : l.length ≤ maxLen) (hc : ∀ i, i < l.length → w.cell? ⟨b, off + i, none⟩ = some (.int .u64 (l.getD i 0))) :
    Calls Try.prog 79 #[.slice (some ⟨b, off, none⟩) l.length cap, .int .u64 0] w fun e w' => e = .returned (.int .i64 (nextT l)) ∧ w = w' := by
  unfold maxLen at hm
  have C := Lib.hid hc
  obtain ⟨r, hr⟩ : ∃ r, nextT l = r := ⟨_, rfl⟩
  have R := Lib.hid hr
  rw [hr]
  clear hc hr
  go_enter Try.func79, Try.ntmps79
  go_wp2
  go_loop [8] (fun i => ∃ k : Nat, k ≤ l.length ∧ i = .int .i64 k ∧ Hid (∀ j, j < k → ¬ l.getD j 0 = 0)) (fun i => l.length - (intOf i).toNat)
  case atStart => exact ⟨0, Nat.zero_le _, rfl, Lib.hid fun j hj => by omega⟩
  case round =>
    obtain ⟨k, hk, rfl, H⟩ := hrel
    by_cases hlt : k < l.length
    · have hcell := C.out k hlt
      obtain ⟨y, hy⟩ : ∃ y, l.getD k 0 = y := ⟨_, rfl⟩
      have Y := Lib.hid hy
      rw [hy] at hcell
      clear hy
      by_cases h0 : y = 0
      · subst h0
        have hn : Hid (nextT l = k) := Lib.hid (nextT_at hlt Y.out H.out)
        go_wp2
        go_ret
        exact ⟨ret_i64 (hn.out.symm.trans R.out), rfl⟩
      · have h0' : ¬ 0 = y := fun e => h0 e.symm
        go_wp2
        go_round
        case rel => exact ⟨k + 1, by omega, by go_num, Lib.hid fun j hj => by
          by_cases e : j = k
          · subst e; rw [Y.out]; exact h0
          · exact H.out j (by omega)⟩
        case measure => simp [intOf]; omega
    · obtain rfl : k = l.length := by omega
      have hn : Hid (nextT l = -1) := Lib.hid (nextT_none H.out)
      go_wp2
      go_ret
      exact ⟨ret_i64 (hn.out.symm.trans R.out), rfl⟩

theorem index_any (v : Value) (l : List Int) (w : World) (h : RU w v l) : Calls Try.prog 79 #[v, .int .u64 0] w fun e w' => e = .returned (.int .i64 (nextT l)) ∧ w = w' := by
  obtain ⟨p, cap, rfl, h1, h2, rfl | ⟨b, off, rfl, hc⟩⟩ := h
  · exact ix_nil p cap w
  · exact ix_some l b off cap w (by omega) hc

theorem next_any (v : Value) (l : List Int) (w : World) (h : RU w v l) : Calls Try.prog 77 #[v] w fun e w' => e = .returned (.int .i64 (nextT l)) ∧ w = w' := by
  have H := Lib.hid h
  obtain ⟨p, cap, rfl, _⟩ := h
  go_enter Try.func77, Try.ntmps77
  go_wp2_with fail
  refine (index_any _ l w H.out).mono ?_; rintro e w' ⟨rfl, rfl⟩
  go_wp2_with fail
  go_ret
  exact ⟨rfl, rfl⟩







end Go.Proofs.Ytjghhcbiaklomaa

/-
  Contracts of May (package spare) and MayTable (the reference): any table, any number of slots.
-/
namespace Go.Proofs.Ytjghhcbiaklomaa
set_option maxRecDepth 100000
open Go.RowKit

theorem deadT_pos {s : Int} (h : ¬ s < 1) : deadT s = s + 1 := if_neg h

theorem may_few (p : Option Addr) (n cap : Nat) (s : Int) (w : World) (h : s < 1) : Calls Try.prog 54 #[.slice p n cap, .int .i64 s] w fun e w' => e = .returned (.bool false) ∧ w = w' := by
  go_enter Try.func54, Try.ntmps54
  go_wp2_with fail
  go_ret
  exact ⟨rfl, rfl⟩
theorem may_nil (p : Option Addr) (cap : Nat) (s : Int) (w : World) (h : ¬ s < 1) : Calls Try.prog 54 #[.slice p 0 cap, .int .i64 s] w fun e w' => e = .returned (.bool true) ∧ w = w' := by
  go_enter Try.func54, Try.ntmps54
  go_wp2
  go_rounds 1
  go_ret
  exact ⟨rfl, rfl⟩

/-- what is asked of the word at place k -/
theorem good_cases (l : List Int) (s : Int) (k : Nat) : (s + 1 < l.getD k 0 ∧ ¬ Good l s k) ∨ (¬ s + 1 < l.getD k 0 ∧ l.getD k 0 = 0 ∧ Good l s k) ∨ (¬ s + 1 < l.getD k 0 ∧ ¬ l.getD k 0 = 0 ∧ k = 0 ∧ Good l s k) ∨
    ∃ j : Nat, k = j + 1 ∧ ¬ s + 1 < l.getD k 0 ∧ ¬ l.getD k 0 = 0 ∧ ((l.getD j 0 = 0 ∧ ¬ Good l s k) ∨ (¬ l.getD j 0 = 0 ∧ Good l s k)) := by
  by_cases h1 : s + 1 < l.getD k 0
  · exact .inl ⟨h1, fun h => by have := h.1; omega⟩
  · by_cases h2 : l.getD k 0 = 0
    · exact .inr (.inl ⟨h1, h2, by omega, fun h => h.2.1 h2⟩)
    · cases k with
      | zero => exact .inr (.inr (.inl ⟨h1, h2, rfl, by omega, fun h => by omega⟩))
      | succ j =>
        refine .inr (.inr (.inr ⟨j, rfl, h1, h2, ?_⟩))
        by_cases h3 : l.getD j 0 = 0
        · exact .inl ⟨h3, fun h => h.2 ⟨by omega, h2, by simpa using h3⟩⟩
        · exact .inr ⟨h3, by omega, fun h => h3 (by simpa using h.2.2)⟩

set_option maxHeartbeats 1000000 in
theorem may_some (l : List Int) (s : Int) (b off cap : Nat) (w : World) (hm : l.length ≤ maxLen) (hs : (Lit.int .i64 s).wf = true) (h : ¬ s < 1) (hc : ∀ i, i < l.length → w.cell? ⟨b, off + i, none⟩ = some (.int .u64 (l.getD i 0))) :
    Calls Try.prog 54 #[.slice (some ⟨b, off, none⟩) l.length cap, .int .i64 s] w fun e w' => e = .returned (.bool (mayT l s)) ∧ w = w' := by
  unfold maxLen at hm
  have C := Lib.hid hc
  have D := Lib.hid (dead_any s w hs)
  rw [deadT_pos h] at D
  obtain ⟨r, hr⟩ : ∃ r, mayT l s = r := ⟨_, rfl⟩
  have R := Lib.hid hr
  rw [hr]
  clear hc hr hs
  have h1 : Hid (1 ≤ s) := Lib.hid (by omega)
  go_enter Try.func54, Try.ntmps54
  go_wp2
  go_loop [11] (fun i => ∃ k : Nat, k ≤ l.length ∧ i = .int .i64 k ∧ Hid (∀ j, j < k → Good l s j)) (fun i => l.length - (intOf i).toNat)
  case atStart => exact ⟨0, Nat.zero_le _, rfl, Lib.hid fun j hj => by omega⟩
  case round =>
    obtain ⟨k, hk, rfl, H⟩ := hrel
    by_cases hlt : k < l.length
    · have hcell := C.out k hlt
      have G := Lib.hid (good_cases l s k)
      obtain ⟨y, hy⟩ : ∃ y, l.getD k 0 = y := ⟨_, rfl⟩
      rw [hy] at hcell G
      clear hy
      rcases G.out with ⟨g1, g2⟩ | ⟨g1, g0, g2⟩ | ⟨g1, g0, rfl, g2⟩ | ⟨j, hj, g1, g0, g3⟩
      · have B := Lib.hid (mayT_bad hlt g2)
        clear g2 G
        go_wp2_with fail
        refine (D.out).mono ?_; rintro e w' ⟨rfl, rfl⟩
        go_wp2
        go_ret
        exact ⟨ret_bool (B.out.symm.trans R.out), rfl⟩
      · have G2 := Lib.hid g2
        subst g0
        clear g2 G
        go_wp2_with fail
        refine (D.out).mono ?_; rintro e w' ⟨rfl, rfl⟩
        go_wp2
        all_goals
          go_round
          case rel => exact ⟨k + 1, by omega, by go_num, Lib.hid fun j hj => by
            by_cases e : j = k
            · subst e; exact G2.out
            · exact H.out j (by omega)⟩
          case measure => simp [intOf]; omega
      · have G2 := Lib.hid g2
        rw [Nat.add_zero] at hcell
        have t0 : (y != 0) = true := by simpa using g0
        clear g2 G
        go_wp2_with fail
        refine (D.out).mono ?_; rintro e w' ⟨rfl, rfl⟩
        go_wp2
        go_round
        case rel => exact ⟨1, by omega, by go_num, Lib.hid fun j hj => by
          obtain rfl : j = 0 := by omega
          exact G2.out⟩
        case measure => simp [intOf]; omega
      · have hc2 := C.out j (by omega)
        have hjl : j < l.length := by omega
        have hk2 : IntKind.i64.wrap ((k : Int) - 1) = (j : Int) := by rw [show (k : Int) - 1 = (j : Int) by omega]; exact IntWalk.i64_in _ (by omega)
        have hk0 : 0 < k := by omega
        have t0 : (y != 0) = true := by simpa using g0
        clear hj
        obtain ⟨z, hz⟩ : ∃ z, l.getD j 0 = z := ⟨_, rfl⟩
        rw [hz] at hc2 g3
        clear G hz
        rcases g3 with ⟨g3, g2⟩ | ⟨g3, g2⟩
        · have B := Lib.hid (mayT_bad hlt g2)
          subst g3
          clear g2
          go_wp2_with fail
          refine (D.out).mono ?_; rintro e w' ⟨rfl, rfl⟩
          go_wp2
          go_ret
          exact ⟨ret_bool (B.out.symm.trans R.out), rfl⟩
        · have G2 := Lib.hid g2
          have t1 : (z == 0) = false := by simpa using g3
          clear g2
          go_wp2_with fail
          refine (D.out).mono ?_; rintro e w' ⟨rfl, rfl⟩
          go_wp2
          go_round
          case rel => exact ⟨k + 1, by omega, by go_num, Lib.hid fun i hi => by
            by_cases e : i = k
            · subst e; exact G2.out
            · exact H.out i (by omega)⟩
          case measure => simp [intOf]; omega
    · obtain rfl : k = l.length := by omega
      have hn : Hid (mayT l s = true) := Lib.hid (good_mayT h1.out H.out)
      go_wp2
      go_ret
      exact ⟨ret_bool (hn.out.symm.trans R.out), rfl⟩

theorem may_any (v : Value) (l : List Int) (s : Int) (w : World) (h : RU w v l) (hs : (Lit.int .i64 s).wf = true) : Calls Try.prog 54 #[v, .int .i64 s] w fun e w' => e = .returned (.bool (mayT l s)) ∧ w = w' := by
  obtain ⟨p, cap, rfl, h1, h2, h3⟩ := h
  by_cases hlt : s < 1
  · rw [mayT_few hlt]; exact may_few p _ cap s w hlt
  · rcases h3 with rfl | ⟨b, off, rfl, hc⟩
    · rw [good_mayT (by omega) (fun k hk => by simp at hk)]; exact may_nil p cap s w hlt
    · exact may_some l s b off cap w (by omega) hs hlt hc
end Go.Proofs.Ytjghhcbiaklomaa

/-
  Contract of package spare's Place: it goes through slices.Backward; what the iterator does, for every loop body that keeps what lay below.
-/
namespace Go.Proofs.Ytjghhcbiaklomaa
set_option maxRecDepth 100000
open Go.RowKit

attribute [local go_sem] Oper.semAt_some

theorem back_enters (args : Array Value) (w : World) : (callFunc 78 args).run Try.prog w = .ok (.enter 78 args) w := by
  have hf : Try.prog.funcs[78]? = some Try.f78 := Try.func78
  have hn : Try.f78.name ≠ "runtime.NumGoroutine" := by decide
  obtain ⟨c, hb⟩ : ∃ c, Try.f78.body = some c := ⟨_, rfl⟩
  simp [callFunc, hf, hn, hb, mark]
theorem backward_any (a : Option Addr) (n cap : Nat) (w : World) :
    Calls Try.prog 72 #[.slice a n cap] w fun e w' => e = .returned (.func (.func 78) #[] #[.pointer (some ⟨w.heap.size, 0, none⟩)]) ∧ w' = w.alloc (.cells #[.slice a n cap] 92) := by
  have hmf : ∀ (fn : Fn) (first cap : Array Value) (w : World), (Instr.makeFunc fn first cap).run Try.prog w = .ok (.func fn first cap) w := fun _ _ _ _ => rfl
  go_enter Try.func72, Try.ntmps72
  go_wp2_with fail
  go_ret
  exact ⟨rfl, rfl⟩

/-- what a loop over a row of n words, from the last one back, hands on: a place and its word -/
def bw (l : List Int) (i : Fin l.length) : Array Value := #[.int .i64 ((i.val : Nat) : Int), .int .u64 (l.getD i.val 0)]
/-- the places that have come, the last one on: all behind it have come ahead of it -/
def Came {n : Nat} (pre : List (Fin n)) : Prop := ∀ ini last, pre = ini ++ [last] → ∀ j, last.val < j.val → j ∈ ini

set_option maxRecDepth 100000 in
set_option maxHeartbeats 2000000 in
theorem back1_in (F : Fence) (n : Nat) (hF : F.fn 78) (hro : F.round = none) (hn : 1 ≤ n) (lp Bs n₀ b off cap : Nat) (l : List Int) (hm : l.length ≤ maxLen) (hb : b < n₀) (J Jx : List (Fin l.length) → World → Prop)
    (hY : ∀ pre x W, J pre W → pre.length < l.length → YieldAt F (n - 1) Try.prog lp (bw l x) W fun e W' =>
      (e = .returned (.bool true) ∧ J (pre ++ [x]) W' ∧ Below n₀ W W') ∨ (e = .returned (.bool false) ∧ Jx (pre ++ [x]) W'))
    (W : World) (hBs : W.cell? ⟨Bs, 0, none⟩ = some (.slice (some ⟨b, off, none⟩) l.length cap)) (hBl : Bs < n₀) (hc : ∀ i, i < l.length → W.cell? ⟨b, off + i, none⟩ = some (.int .u64 (l.getD i 0))) (h0 : J [] W) :
    CallsIn F n Try.prog 78 #[.func (.yield lp) #[] #[], .pointer (some ⟨Bs, 0, none⟩)] W fun e W' => (∃ v, e = .returned v) ∧
      ((∃ ys : List (Fin l.length), (∀ i, i ∈ ys) ∧ J ys W') ∨ (∃ pre, Came pre ∧ Jx pre W')) := by
  unfold maxLen at hm
  refine callsIn_of_wp Try.func78 rfl hF ?_ hro
  simp only [Try.ntmps78, List.size_toArray, List.length_cons, List.length_nil, Nat.reduceAdd, Nat.reduceSub, Array.replicate_succ, Array.replicate_zero, List.push_toArray, List.append_toArray, List.nil_append, List.cons_append]
  have C := Lib.hid hc
  have hY' := Lib.hid hY
  clear hc hY
  gi_wp2
  gi_loopw [3] (fun i wr => ∃ k : Nat, k ≤ l.length ∧ i = .int .i64 ((k : Int) - 1) ∧ Hid (∃ pre : List (Fin l.length), pre.length + k = l.length ∧ (∀ i : Fin l.length, k ≤ i.val → i ∈ pre) ∧ J pre wr ∧ Below n₀ W wr))
    (fun i _ => (intOf i + 1).toNat)
  case atStart => exact ⟨l.length, Nat.le_refl _, by go_num, Lib.hid ⟨[], by simp, fun i hi => absurd i.isLt (by omega), h0, Below.refl _ _⟩⟩
  case round =>
    obtain ⟨k, hk, rfl, H⟩ := hrel
    obtain ⟨pre, g1, g2, g3, g4⟩ := H.out
    have G2 := Lib.hid g2
    have G4 := Lib.hid g4
    cases k with
    | zero =>
      have hend := Lib.hid g3
      clear g2 g4 g3 H
      gi_wp2
      go_end0
      exact ⟨⟨_, rfl⟩, .inl ⟨pre, fun i => G2.out i (Nat.zero_le _), hend.out⟩⟩
    | succ k =>
      have hbs' := (g4.cell (p := ⟨Bs, 0, none⟩) hBl).trans hBs
      have hcell := (g4.cell (p := ⟨b, off + k, none⟩) hb).trans (C.out k (by omega))
      obtain ⟨fn, tmps, assign, body, hy, hR⟩ := hY'.out pre ⟨k, by omega⟩ wr g3 (by omega)
      dsimp only [bw] at hy
      have e1 : ((k + 1 : Nat) : Int) - 1 = (k : Int) := by omega
      rw [e1]
      obtain ⟨y, hyy⟩ : ∃ y, l.getD k 0 = y := ⟨_, rfl⟩
      rw [hyy] at hcell hy
      have HR := Lib.hid hR
      have hkl : k < l.length := by omega
      clear g2 g3 g4 H hR hyy e1
      gi_wp2
      refine HR.out.mono ?_
      rintro e W3 (⟨rfl, hJ3, hk3⟩ | ⟨rfl, hJx3⟩)
      · have J3 := Lib.hid hJ3
        have K3 := Lib.hid hk3
        clear hJ3 hk3
        gi_wp2
        go_roundw
        case rel => exact ⟨k, by omega, by go_num, Lib.hid ⟨_, by simp; omega, fun i hi => by
          by_cases e : i.val = k
          · exact List.mem_append_right _ (by simp [Fin.ext_iff, e])
          · exact List.mem_append_left _ (G2.out i (by omega)), J3.out, G4.out.trans K3.out⟩⟩
        case measure => simp [intOf]
      · have J3 := Lib.hid hJx3
        clear hJx3
        gi_wp2
        refine bodyPost_ret (results_none rfl _ _ _) rfl ?_
        refine ⟨⟨_, rfl⟩, .inr ⟨_, ?_, J3.out⟩⟩
        intro ini last e j hj
        obtain ⟨rfl, e5⟩ := List.append_inj' e rfl
        obtain rfl : _ = last := by simpa using e5
        exact G2.out j hj

set_option maxRecDepth 100000 in
set_option maxHeartbeats 1000000 in
theorem back0_in (F : Fence) (n : Nat) (hF : F.fn 78) (hro : F.round = none) (lp Bs cap : Nat) (p : Option Addr) (W : World) (hBs : W.cell? ⟨Bs, 0, none⟩ = some (.slice p 0 cap)) (J : World → Prop) (h0 : J W) :
    CallsIn F n Try.prog 78 #[.func (.yield lp) #[] #[], .pointer (some ⟨Bs, 0, none⟩)] W fun e W' => (∃ v, e = .returned v) ∧ J W' := by
  refine callsIn_of_wp Try.func78 rfl hF ?_ hro
  simp only [Try.ntmps78, List.size_toArray, List.length_cons, List.length_nil, Nat.reduceAdd, Nat.reduceSub, Array.replicate_succ, Array.replicate_zero, List.push_toArray, List.append_toArray, List.nil_append, List.cons_append]
  gi_wp2
  gi_loopw [3] (fun i wr => i = .int .i64 (-1) ∧ J wr) (fun _ _ => 0)
  case atStart => exact ⟨by go_num, h0⟩
  case round =>
    obtain ⟨rfl, hJs⟩ := hrel
    gi_wp2
    go_end0
    exact ⟨⟨_, rfl⟩, hJs⟩

theorem back_stops (F : Fence) (n : Nat) (hF : F.fn 78) (hro : F.round = none) (hn : 1 ≤ n) (Bs n₀ : Nat) (v : Value) (l : List Int) (w : World) (hBs : Bs < n₀) (hn₀ : n₀ ≤ w.heap.size) (hc : w.cell? ⟨Bs, 0, none⟩ = some v) (hI : RU w v l)
    (hlow : ∀ b off cap, v = .slice (some ⟨b, off, none⟩) l.length cap → 0 < l.length → b < n₀) :
    SeqStopsK F n Try.prog 78 #[.pointer (some ⟨Bs, 0, none⟩)] (bw l) (Below n₀) (fun ys => ∀ i, i ∈ ys) Came l.length w := fun lp J Jx W hW _ _ hY h0 => by
  have hc' := (hW.cell (p := ⟨Bs, 0, none⟩) (by show Bs < _; omega)).trans hc
  obtain ⟨p, cap, rfl, h1, h2, h3⟩ := ru_below hI hW
  rcases h3 with rfl | ⟨b, off, rfl, hcs⟩
  · exact (back0_in F n hF hro lp Bs cap p W hc' (J []) h0).mono fun e W' ⟨he, hj⟩ => ⟨he, .inl ⟨[], fun i => absurd i.isLt (by simp), hj⟩⟩
  · by_cases hl : 0 < l.length
    · exact back1_in F n hF hro hn lp Bs n₀ b off cap l (by omega) (hlow b off cap rfl hl) J Jx hY W hc' hBs hcs h0
    · obtain rfl : l = [] := List.eq_nil_of_length_eq_zero (by omega)
      exact (back0_in F n hF hro lp Bs cap _ W hc' (J []) h0).mono fun e W' ⟨he, hj⟩ => ⟨he, .inl ⟨[], fun i => absurd i.isLt (by simp), hj⟩⟩

theorem results_cell1 {P : Program} {fn : Func} {p : Tmp} {ty : TypeId} (h : fn.results = #[.cell p ty]) (tmps : Array Value) (w : World) (ad : Addr) (v : Value) (k : IntKind)
    (hp : tmps.getD p undef = .pointer (some ad)) (hu : P.underlying ty = some (.int k)) (hc : w.cell? ad = some v) : (results fn tmps).run P w = .ok v w := by
  have hp' : tmps[p]?.getD undef = .pointer (some ad) := by simpa using hp
  have ha : (isAgg ty).run P w = .ok false w := by simp [isAgg, go_sem, run_underlying hu]
  simp [results, h, hp', asAddr, go_sem, ha, hc]

theorem place_out (p : Option Addr) (n cap : Nat) (s a : Int) (w : World) (h : ¬ (0 ≤ a ∧ a < s)) : Calls Try.prog 61 #[.slice p n cap, .int .i64 s, .int .i64 a] w fun e w' => e = .returned (.int .i64 (-1)) ∧ Below w.heap.size w w' := by
  obtain ⟨w0, hw0⟩ : ∃ w0, ((w.alloc (.cells #[.int .i64 s] 3)).alloc (.cells #[.int .i64 a] 3)).alloc (.cells #[.int .i64 0] 3) = w0 := ⟨_, rfl⟩
  have b0 := ((Boxed.new w 3 (.int .i64 s)).alloc (.cells #[.int .i64 a] 3)).alloc (.cells #[.int .i64 0] 3)
  have b1 := (Boxed.new (w.alloc (.cells #[.int .i64 s] 3)) 3 (.int .i64 a)).alloc (.cells #[.int .i64 0] 3)
  have b2 := Boxed.new ((w.alloc (.cells #[.int .i64 s] 3)).alloc (.cells #[.int .i64 a] 3)) 3 (.int .i64 0)
  have B0 : Below w.heap.size w w0 := by rw [← hw0]; exact bal (bal (bal (Below.refl _ _)))
  simp only [World.size_alloc] at b1 b2
  rw [hw0] at b0 b1 b2
  have c0 := b0.cell; have c1 := b1.cell; have c2 := b2.cell; have f2 := b2.frozen
  have HB := Lib.hid fun (x : Value) => B0.setCell (p := ⟨w.heap.size + 1 + 1, 0, none⟩) (by show _ ≤ w.heap.size + 1 + 1; omega) x
  have HC := Lib.hid fun (x : Value) => World.cell?_setCell_same' w0 ⟨w.heap.size + 1 + 1, 0, none⟩ x (by rw [c2]; rfl)
  clear b0 b1 b2 B0
  by_cases h0 : a < 0
  · clear h
    go_enter Try.func61, Try.ntmps61
    go_wp2
    exact bodyPost_ret (v := .int .i64 (-1)) (results_cell1 rfl _ _ _ _ _ rfl Try.underlying3 (HC.out _)) rfl ⟨rfl, HB.out _⟩
  · have h1 : a ≥ s := by omega
    clear h
    go_enter Try.func61, Try.ntmps61
    go_wp2
    exact bodyPost_ret (v := .int .i64 (-1)) (results_cell1 rfl _ _ _ _ _ rfl Try.underlying3 (HC.out _)) rfl ⟨rfl, HB.out _⟩

set_option maxRecDepth 100000 in
set_option maxHeartbeats 2000000 in
theorem place_in (v : Value) (l : List Int) (s a : Int) (w : World) (hr : RU w v l) (hlow : ∀ b off cap, v = .slice (some ⟨b, off, none⟩) l.length cap → 0 < l.length → b < w.heap.size) (hm : s + l.length < 4611686018427387904) (ha0 : 0 ≤ a) (ha1 : a < s) :
    Calls Try.prog 61 #[v, .int .i64 s, .int .i64 a] w fun e w' => e = .returned (.int .i64 (plT l s a l.length)) ∧ Below w.heap.size w w' := by
  obtain ⟨p, cap, hv, _⟩ := id hr
  obtain ⟨w0, hw0⟩ : ∃ w0, ((w.alloc (.cells #[.int .i64 s] 3)).alloc (.cells #[.int .i64 a] 3)).alloc (.cells #[.int .i64 0] 3) = w0 := ⟨_, rfl⟩
  obtain ⟨w1, hw1⟩ : ∃ w1, w0.alloc (.cells #[v] 92) = w1 := ⟨_, rfl⟩
  have b0 := ((Boxed.new w 3 (.int .i64 s)).alloc (.cells #[.int .i64 a] 3)).alloc (.cells #[.int .i64 0] 3)
  have b1 := (Boxed.new (w.alloc (.cells #[.int .i64 s] 3)) 3 (.int .i64 a)).alloc (.cells #[.int .i64 0] 3)
  have b2 := Boxed.new ((w.alloc (.cells #[.int .i64 s] 3)).alloc (.cells #[.int .i64 a] 3)) 3 (.int .i64 0)
  have B0 : Below w.heap.size w w0 := by rw [← hw0]; exact bal (bal (bal (Below.refl _ _)))
  have z0 : w0.heap.size = w.heap.size + 3 := by rw [← hw0]; simp
  simp only [World.size_alloc] at b1 b2
  rw [hw0] at b0 b1 b2
  have c0 := b0.cell; have c1 := b1.cell
  have d0 := Lib.hid (b0.alloc (.cells #[v] 92)); have d1 := Lib.hid (b1.alloc (.cells #[v] 92)); have d2 := Lib.hid (b2.alloc (.cells #[v] 92)); have d3 := Lib.hid (Boxed.new w0 92 v)
  rw [hw1] at d0 d1 d2 d3
  rw [z0] at d3
  have B1 : Hid (Below w.heap.size w w1) := Lib.hid (by rw [← hw1]; exact bal B0)
  have z1 : Hid (w1.heap.size = w.heap.size + 4) := Lib.hid (by rw [← hw1]; simp [z0])
  have R := Lib.hid hr
  have L := Lib.hid hlow
  clear b0 b1 b2 B0 hr hlow
  subst hv
  refine (callsIn_wide (n := 3)).1 ?_
  refine callsIn_of_wp_marks Try.func61 rfl trivial ?_ rfl
  simp only [Try.ntmps61, List.size_toArray, List.length_cons, List.length_nil, Nat.reduceAdd, Nat.reduceSub, Array.replicate_succ, Array.replicate_zero, List.push_toArray, List.append_toArray, List.nil_append, List.cons_append]
  gi_wp2_with (refine ⟨trivial, ?_⟩; gi_at_call 72; refine (callsIn_wide.2 (backward_any _ _ _ _)).mono ?_; rintro e w' ⟨rfl, rfl⟩)
  have hi0 : ∀ j : Nat, j < l.length → IntKind.i64.wrap (s + (j : Int)) = s + (j : Int) := fun j hj => IntWalk.i64_in _ (by omega)
  have HI := Lib.hid hi0
  clear hi0 c0 c1 hw1
  refine wpIn_rangeFunc_ownG rfl (by omega) (gf := 78) (lb := #[.pointer (some ⟨w.heap.size + 3, 0, none⟩)]) rfl trivial back_enters
    (back_stops Fence.wide (3 - 1) trivial rfl (by omega) (w.heap.size + 3) (w.heap.size + 4) _ l w1 (by omega) (by rw [z1.out]; exact Nat.le_refl _) d3.out.cell (ru_below R.out B1.out) (fun b off cap e h => by have := L.out b off cap e h; omega))
    (fun h k => belowK_t h k) (belowK_b (by rw [z1.out]; exact Nat.le_refl _)) (Below.refl _ _) (fun _ => rfl)
    (fun pre W => ((Boxed W w.heap.size 3 (.int .i64 s) ∧ Boxed W (w.heap.size + 1) 3 (.int .i64 a)) ∧ (Boxed W (w.heap.size + 1 + 1) 3 (.int .i64 0) ∧ ∀ i ∈ pre, ¬ l.getD i.val 0 = a + 1)) ∧ Below w.heap.size w W)
    (fun c pre W => (∃ last : Fin l.length, Boxed W (w.heap.size + 1 + 1) 3 (.int .i64 (s + (last.val : Int))) ∧ (c = .ret ∧ ∃ ini, pre = ini ++ [last] ∧ (∀ i ∈ ini, ¬ l.getD i.val 0 = a + 1) ∧ l.getD last.val 0 = a + 1)) ∧ Below w.heap.size w W)
    (OwnFrom.and (OwnFrom.and (OwnFrom.and (Own.from (boxed_own _ _ _) _) (Own.from (boxed_own _ _ _) _)) (OwnFrom.and (Own.from (boxed_own _ _ _) _) (ownFrom_pure _ _))) (ownFrom_below (Nat.le_refl _) (by rw [z1.out]; omega)))
    (fun c => OwnFrom.and (Own.from (fun pre A B row hs hg hr => by
      obtain ⟨last, hb, hrest⟩ := hs
      exact ⟨last, boxed_own (β := Unit) _ _ (fun _ => .int .i64 (s + (last.val : Int))) () A B row hb hg hr, hrest⟩) _) (ownFrom_below (Nat.le_refl _) (by rw [z1.out]; omega)))
    ⟨⟨⟨d0.out, d1.out⟩, d2.out, by simp⟩, B1.out⟩
    (fun x => { tmps := #[.slice p l.length cap, .int .i64 s, .int .i64 a, undef, .pointer (some ⟨w.heap.size, 0, none⟩), .pointer (some ⟨w.heap.size + 1, 0, none⟩), .pointer (some ⟨w.heap.size + 1 + 1, 0, none⟩), .int .i64 (x.val : Int), .int .u64 (l.getD x.val 0), .int .i64 a,
      .bool (decide (a < 0)), .bool (decide (a < 0)), .int .i64 a, .int .i64 s, .bool (decide (s ≤ a)), .bool (decide (a < 0) || decide (s ≤ a)), .slice p l.length cap, .func (.func 78) #[] #[.pointer (some ⟨w.heap.size + 3, 0, none⟩)],
      .int .i64 (x.val : Int), .int .u64 (l.getD x.val 0), undef, undef, undef, undef, undef, undef, undef, undef], defers := [] }) ?assign ?body ?done ?stop
  case assign =>
    intro lp x W K hK
    dsimp only [bw]
    generalize l.getD x.val 0 = y at *
    generalize (x.val : Int) = i at *
    gi_wp2
    exact hK
  case body =>
    rintro lp pre x W ⟨⟨⟨hb0, hb1⟩, hb2, hpre⟩, hB⟩ _
    have hd : 1 ≤ 3 - 1 - 1 := by omega
    have c0 := hb0.cell; have c1 := hb1.cell; have c2 := hb2.cell; have f2 := hb2.frozen
    have A0 := Lib.hid hb0; have A1 := Lib.hid hb1; have A2 := Lib.hid hb2; have AB := Lib.hid hB; have AP := Lib.hid hpre
    have e3 := HI.out x.val x.isLt
    obtain ⟨i, hi⟩ : ∃ i, x.val = i := ⟨_, rfl⟩
    obtain ⟨y, hy⟩ : ∃ y, l.getD x.val 0 = y := ⟨_, rfl⟩
    have Y := Lib.hid hy; have X := Lib.hid hi
    rw [hy]
    rw [hi] at e3 ⊢
    have hil : i < l.length := by rw [← hi]; exact x.isLt
    clear hb0 hb1 hb2 hB hpre hy hi
    by_cases h : y = a + 1
    · subst h
      gi_wp2_with (refine ⟨trivial, ?_⟩; first
        | (gi_at_call 73; refine (CallsIn.inRound lp (callsIn_wide.2 (word_any a W ha0 (by omega)))).mono ?_; rintro e w' ⟨rfl, rfl⟩)
        | (gi_at_call 74; refine (CallsIn.inRound lp (callsIn_wide.2 (line_any s i W (by omega) (by omega) (by omega)))).mono ?_; rintro e w' ⟨rfl, rfl⟩))
      exact ⟨(KeepsOthers.setCell _ _ _).from _, ⟨x, by rw [X.out]; exact A2.out.set _, rfl, pre, rfl, AP.out, Y.out⟩, AB.out.setCell (p := ⟨w.heap.size + 1 + 1, 0, none⟩) (by show _ ≤ w.heap.size + 1 + 1; omega) _⟩
    · gi_wp2_with (refine ⟨trivial, ?_⟩; gi_at_call 73; refine (CallsIn.inRound lp (callsIn_wide.2 (word_any a W ha0 (by omega)))).mono ?_; rintro e w' ⟨rfl, rfl⟩)
      refine ⟨KeepsFrom.refl _ _, Below.refl _ _, ⟨⟨A0.out, A1.out⟩, A2.out, fun j hj => ?_⟩, AB.out⟩
      rcases List.mem_append.1 hj with hj | hj
      · exact AP.out j hj
      · obtain rfl : j = x := by simpa using hj
        rw [Y.out]; exact h
  case done =>
    rintro D ys W hD hS ⟨⟨⟨hb0, hb1⟩, hb2, hpre⟩, hB⟩ hK
    rw [z1.out] at hD
    have c1 := hb1.cell; have c2 := hb2.cell; have f2 := hb2.frozen
    have A2 := Lib.hid hb2; have AB := Lib.hid hB; have AK := Lib.hid hK
    have E := Lib.hid (plT_none (l := l) (s := s) (a := a) (n := l.length) fun k hk => hpre ⟨k, hk⟩ (hS _))
    clear hb0 hb1 hb2 hB hpre hK hS
    gi_wp2
    have hK' := (KeepsOthers.setCell W ⟨w.heap.size + 1 + 1, 0, none⟩ (.int .i64 a)).same D _ AK.out rfl
    refine ⟨by simp, .inl ⟨_, _, rfl, run_takeDeferred hK', ?_⟩⟩
    have b5 := (A2.out.set (.int .i64 a)).kept (grownBy_putObj' _ D (.deferred none)) (fun e => by have := Option.some.inj e; omega)
    refine ⟨.int .i64 a, results_cell1 rfl _ _ _ _ _ rfl Try.underlying3 b5.cell, ret_i64 E.out.symm, ?_⟩
    exact (AB.out.setCell (p := ⟨w.heap.size + 1 + 1, 0, none⟩) (by show _ ≤ w.heap.size + 1 + 1; omega) _).trans (belowK_b (w := w) (Nat.le_refl _) _ D _ _ (by omega) hK' rfl rfl)
  case stop =>
    rintro D c pre W hD hS ⟨⟨last, hb, rfl, ini, rfl, h1, h2⟩, hB⟩ hK
    rw [z1.out] at hD
    have A2 := Lib.hid hb; have AB := Lib.hid hB; have AK := Lib.hid hK
    have E := Lib.hid (plT_last (l := l) (s := s) (a := a) (n := l.length) last.isLt h2 fun j hj hjl => h1 ⟨j, hjl⟩ (hS ini last rfl ⟨j, hjl⟩ hj))
    clear hb hB hK h1 h2 hS
    gi_wp2
    refine ⟨by simp, .inl ⟨_, _, rfl, run_takeDeferred AK.out, ?_⟩⟩
    have b5 := A2.out.kept (grownBy_putObj' _ D (.deferred none)) (fun e => by have := Option.some.inj e; omega)
    refine ⟨_, results_cell1 rfl _ _ _ _ _ rfl Try.underlying3 b5.cell, ret_i64 E.out.symm, ?_⟩
    exact AB.out.trans (belowK_b (w := w) (Nat.le_refl _) _ D _ _ (by omega) AK.out rfl rfl)

theorem place_any (v : Value) (l : List Int) (s a : Int) (w : World) (h : RU w v l) (hm : s + l.length < 4611686018427387904) : Calls Try.prog 61 #[v, .int .i64 s, .int .i64 a] w fun e w' => e = .returned (.int .i64 (placeT l s a)) ∧ Below w.heap.size w w' := by
  by_cases hlt : 0 ≤ a ∧ a < s
  · rw [placeT, if_pos hlt]
    refine place_in v l s a w h (fun b off cap e hl => ?_) hm hlt.1 hlt.2
    subst e
    obtain ⟨b', off', e, hb, _⟩ := ru_some h hl
    cases e; exact hb
  · rw [placeT, if_neg hlt]
    obtain ⟨p, cap, rfl, _⟩ := h
    exact place_out p _ cap s a w hlt
end Go.Proofs.Ytjghhcbiaklomaa

/-
  Contracts of package lines' Slots, table, ready, Left and Get.
-/
namespace Go.Proofs.Ytjghhcbiaklomaa
set_option maxRecDepth 100000
open Go.RowKit

/-- block q holds lines over the memory in block g -/
def Lq (w : World) (q g S P : Nat) : Prop := Whole w q 91 #[.pointer (some ⟨g, 0, none⟩), .int .i64 (S : Int), .int .i64 (P : Int)]
theorem Lq.lt {w : World} {q g S P : Nat} (h : Lq w q g S P) : q < w.heap.size := Whole.lt h
theorem Lq.below {w w' : World} {q g S P : Nat} (h : Lq w q g S P) (hb : Below w.heap.size w w') : Lq w' q g S P := (hb.block q h.lt).trans h
theorem Lq.chg {D : List Nat} {w w' : World} {q g S P : Nat} (h : Lq w q g S P) (hc : Chg D w w') (hq : q ∉ D) : Lq w' q g S P := hc.whole h hq
theorem Lq.alloc {w : World} {q g S P : Nat} (h : Lq w q g S P) (o : Obj) : Lq (w.alloc o) q g S P := Whole.alloc h o
theorem Lq.drewN {w : World} {q g S P : Nat} (h : Lq w q g S P) (n : Nat) : Lq (w.drewN n) q g S P := h
theorem Lq.cells {w : World} {q g S P : Nat} (h : Lq w q g S P) : w.cell? ⟨q, 0, none⟩ = some (.pointer (some ⟨g, 0, none⟩)) ∧ w.cell? ⟨q, 1, none⟩ = some (.int .i64 (S : Int)) ∧ w.cell? ⟨q, 2, none⟩ = some (.int .i64 (P : Int)) :=
  ⟨by rw [Whole.at_ h]; rfl, by rw [Whole.at_ h]; rfl, by rw [Whole.at_ h]; rfl⟩

theorem slots_any (q g S P : Nat) (w : World) (h : Lq w q g S P) : Calls Try.prog 70 #[.pointer (some ⟨q, 0, none⟩)] w fun e w' => e = .returned (.int .i64 (S : Int)) ∧ w = w' := by
  obtain ⟨_, c1, _⟩ := h.cells
  clear h
  go_enter Try.func70, Try.ntmps70
  go_wp2_with fail
  go_ret
  exact ⟨rfl, rfl⟩
theorem slots_nil (w : World) : Calls Try.prog 70 #[.pointer none] w fun e w' => e = .returned (.int .i64 0) ∧ w = w' := by
  go_enter Try.func70, Try.ntmps70
  go_wp2_with fail
  go_ret
  exact ⟨rfl, rfl⟩

theorem table_dark (q g S P : Nat) (s : Nv) (w : World) (h : Lq w q g S P) (hN : Nm w g s) (hd : s.dark = true) :
    Calls Try.prog 53 #[.pointer (some ⟨q, 0, none⟩)] w fun e w' => e = .returned (.tuple #[.slice none 0 0, .int .i64 2]) ∧ w = w' := by
  obtain ⟨c0, _, _⟩ := h.cells
  have C := Lib.hid (down_any g s w hN)
  rw [hd] at C
  clear h hN hd
  go_enter Try.func53, Try.ntmps53
  go_wp2_with fail
  refine (C.out).mono ?_; rintro e w' ⟨rfl, rfl⟩
  go_wp2
  go_ret2
  exact ⟨rfl, rfl⟩

/-- the table, as far as it has been read -/
def Nv.tbk (s : Nv) (P k : Nat) : List Int := (List.range P).map fun i => if i < k then s.rg (3 + i) else 0
theorem Nv.tbk_length (s : Nv) (P k : Nat) : (s.tbk P k).length = P := by simp [Nv.tbk]
theorem Nv.tbk_zero (s : Nv) (P : Nat) : List.replicate P 0 = s.tbk P 0 := by
  refine list_ext (by simp [Nv.tbk]) fun i hi => ?_
  simp at hi
  simp [Nv.tbk, hi]
theorem Nv.tbk_all (s : Nv) (P : Nat) : s.tbk P P = s.tb P := by
  refine list_ext (by simp [Nv.tbk, Nv.tb]) fun i hi => ?_
  rw [Nv.tbk_length] at hi
  simp [Nv.tbk, Nv.tb, hi]
theorem Nv.tbk_set (s : Nv) {P k : Nat} (hk : k < P) : (s.tbk P k).set k (s.rg (3 + k)) = s.tbk P (k + 1) := by
  refine list_ext (by simp [Nv.tbk]) fun i hi => ?_
  rw [List.length_set, Nv.tbk_length] at hi
  rw [getD_setT (by rw [Nv.tbk_length]; exact hk)]
  by_cases e : i = k
  · subst e; simp [Nv.tbk, hi]
  · rw [if_neg e]
    have h3 : i < k + 1 ↔ i < k := by omega
    simp [Nv.tbk, hi, h3]

set_option maxHeartbeats 1000000 in
theorem table_live (q g S P : Nat) (s : Nv) (w : World) (h : Lq w q g S P) (hN : Nm w g s) (hP : P ≤ 16) (hd : s.dark = false) :
    Calls Try.prog 53 #[.pointer (some ⟨q, 0, none⟩)] w fun e w' => ∃ v, e = .returned (.tuple #[v, .int .i64 0]) ∧ OwnU w.heap.size w' v (s.tb P) ∧ Below w.heap.size w w' := by
  have hmk := run_make_row' (P := Try.prog) 92 37 (.int .u64 0) 8 Try.underlying92 info_u64 rfl .i64 .i64 P (by omega) (by omega)
  obtain ⟨c0, _, c2⟩ := h.cells
  have C := Lib.hid (down_any g s w hN)
  rw [hd] at C
  have O0 := own_made_u w P (by unfold maxLen; omega)
  rw [s.tbk_zero P] at O0
  have O := Lib.hid O0
  have B := Lib.hid (bal (o := .cells (madeCells #[.int .u64 0] P) 37) (Below.refl w.heap.size w))
  have HL := Lib.hid h
  have HN := Lib.hid hN
  have G := Lib.hid (fun (w' : World) (hn : Nm w' g s) (i : Int) => reg_any g s i w' hn)
  have HR : Hid (∀ k : Nat, k < P → s.rd ((3 + k : Nat) : Int) = s.rg (3 + k) ∧ s.rdy (hasR ((3 + k : Nat) : Int)) = 0) := Lib.hid fun k hk => by
    have hb : hasR ((3 + k : Nat) : Int) = true := by simp [hasR]; omega
    have hr : s.rdy (hasR ((3 + k : Nat) : Int)) = 0 := by rw [hb]; simp [Nv.rdy, hd]
    exact ⟨by simp only [Nv.rd, hr, if_true, Int.toNat_natCast], hr⟩
  clear h hN O0 hd
  go_enter Try.func53, Try.ntmps53
  go_wp2_with fail
  refine (C.out).mono ?_; rintro e w' ⟨rfl, rfl⟩
  go_wp2
  go_loopw [20] (fun i wr => ∃ k : Nat, k ≤ P ∧ i = .int .i64 k ∧ Hid (OwnU w.heap.size wr (.slice (some ⟨w.heap.size, 0, none⟩) P P) (s.tbk P k) ∧ Below w.heap.size w wr)) (fun i _ => P - (intOf i).toNat)
  case atStart => exact ⟨0, Nat.zero_le _, rfl, Lib.hid ⟨O.out, B.out⟩⟩
  case round =>
    obtain ⟨k, hk, rfl, H⟩ := hrel
    clear hmk
    by_cases hlt : k < P
    · obtain ⟨d0, _, _⟩ := (HL.out.below H.out.2).cells
      have hw3 : IntKind.i64.wrap (3 + (k : Int)) = ((3 + k : Nat) : Int) := by rw [show 3 + (k : Int) = ((3 + k : Nat) : Int) by omega]; exact IntWalk.i64_in _ (by omega)
      have R := Lib.hid (G.out wr (HN.out.below H.out.2) ((3 + k : Nat) : Int))
      rw [(HR.out k hlt).1, (HR.out k hlt).2] at R
      have own2 := OwnU.stored H.out.1 k (s.rg (3 + k))
      rw [s.tbk_set hlt] at own2
      obtain ⟨c1, f1⟩ := OwnU.cells H.out.1 (j := k) (by rw [s.tbk_length]; exact hlt)
      have B2 := H.out.2.setCell (p := ⟨w.heap.size, k, none⟩) (Nat.le_refl _) (.int .u64 (s.rg (3 + k)))
      have H2 := Lib.hid (And.intro own2 B2)
      generalize (s.tbk P k).getD k 0 = y at c1
      clear own2 B2
      have i0 : (0 : Int) ≤ (k : Int) := by omega
      have i1 : (k : Int) < (P : Int) := by omega
      go_wp2_with fail
      refine (R.out).mono ?_; rintro e w' ⟨rfl, rfl⟩
      go_wp2
      exact ⟨⟨k + 1, by omega, by go_num, H2⟩, by simp [intOf]; omega⟩
    · obtain rfl : k = P := by omega
      go_wp2
      go_ret2
      exact ⟨_, rfl, by rw [← s.tbk_all]; exact H.out.1, H.out.2⟩

/-- the table that is told, or why not -/
def Told (w w' : World) (s : Nv) (P : Nat) (v : Value) : Prop := s.dark = false → OwnU w.heap.size w' v (s.tb P)
theorem table_any (q g S P : Nat) (s : Nv) (w : World) (h : Lq w q g S P) (hN : Nm w g s) (hP : P ≤ 16) :
    Calls Try.prog 53 #[.pointer (some ⟨q, 0, none⟩)] w fun e w' => ∃ v, e = .returned (.tuple #[v, .int .i64 (if s.dark then 2 else 0)]) ∧ Told w w' s P v ∧ Below w.heap.size w w' := by
  cases hd : s.dark
  · refine (table_live q g S P s w h hN hP hd).mono ?_
    rintro e w' ⟨v, rfl, h1, h2⟩
    exact ⟨v, rfl, fun _ => h1, h2⟩
  · refine (table_dark q g S P s w h hN hd).mono ?_
    rintro e w' ⟨rfl, rfl⟩
    exact ⟨_, rfl, fun hx => absurd (hd.symm.trans hx) (by decide), Below.refl _ _⟩


theorem ready_out (q g S P : Nat) (a : Int) (w : World) (h : Lq w q g S P) (ha : ¬ (0 ≤ a ∧ a < S)) :
    Calls Try.prog 59 #[.pointer (some ⟨q, 0, none⟩), .int .i64 a] w fun e w' => e = .returned (.tuple #[.slice none 0 0, .int .i64 1]) ∧ w = w' := by
  have C := Lib.hid (slots_any q g S P w h)
  clear h
  by_cases h0 : a < 0
  · clear ha
    go_enter Try.func59, Try.ntmps59
    go_wp2
    go_ret2
    exact ⟨rfl, rfl⟩
  · have h1 : a ≥ (S : Int) := by omega
    have h2 : ¬ a < 0 := by omega
    clear ha
    go_enter Try.func59, Try.ntmps59
    go_wp2_with fail
    refine (C.out).mono ?_; rintro e w' ⟨rfl, rfl⟩
    go_wp2
    go_ret2
    exact ⟨rfl, rfl⟩
theorem lready_nil (a : Int) (w : World) :
    Calls Try.prog 59 #[.pointer none, .int .i64 a] w fun e w' => e = .returned (.tuple #[.slice none 0 0, .int .i64 1]) ∧ w = w' := by
  by_cases h0 : a < 0
  · go_enter Try.func59, Try.ntmps59
    go_wp2
    go_ret2
    exact ⟨rfl, rfl⟩
  · have h1 : a ≥ 0 := by omega
    go_enter Try.func59, Try.ntmps59
    go_wp2_with fail
    refine (slots_nil w).mono ?_; rintro e w' ⟨rfl, rfl⟩
    go_wp2
    go_ret2
    exact ⟨rfl, rfl⟩
theorem ready_dark (q g S P : Nat) (s : Nv) (a : Int) (w : World) (h : Lq w q g S P) (hN : Nm w g s) (ha : 0 ≤ a) (has : a < S) (hd : s.dark = true) :
    Calls Try.prog 59 #[.pointer (some ⟨q, 0, none⟩), .int .i64 a] w fun e w' => e = .returned (.tuple #[.slice none 0 0, .int .i64 2]) ∧ w = w' := by
  have C := Lib.hid (slots_any q g S P w h)
  have C1 := Lib.hid (table_dark q g S P s w h hN hd)
  have h1 : ¬ a ≥ (S : Int) := by omega
  have h2 : ¬ a < 0 := by omega
  clear h hN hd
  go_enter Try.func59, Try.ntmps59
  go_wp2_with fail
  refine (C.out).mono ?_; rintro e w' ⟨rfl, rfl⟩
  go_wp2_with fail
  refine (C1.out).mono ?_; rintro e w' ⟨rfl, rfl⟩
  go_wp2
  go_ret2
  exact ⟨rfl, rfl⟩
theorem ready_live (q g S P : Nat) (s : Nv) (a : Int) (w : World) (h : Lq w q g S P) (hN : Nm w g s) (hP : P ≤ 16) (ha : 0 ≤ a) (has : a < S) (hd : s.dark = false) :
    Calls Try.prog 59 #[.pointer (some ⟨q, 0, none⟩), .int .i64 a] w fun e w' => ∃ v, e = .returned (.tuple #[v, .int .i64 0]) ∧ OwnU w.heap.size w' v (s.tb P) ∧ Below w.heap.size w w' := by
  have C := Lib.hid (slots_any q g S P w h)
  have C1 := Lib.hid (table_live q g S P s w h hN hP hd)
  have h1 : ¬ a ≥ (S : Int) := by omega
  have h2 : ¬ a < 0 := by omega
  clear h hN hd
  go_enter Try.func59, Try.ntmps59
  go_wp2_with fail
  refine (C.out).mono ?_; rintro e w' ⟨rfl, rfl⟩
  go_wp2_with fail
  refine (C1.out).mono ?_; rintro e w' ⟨v, rfl, hO, hB⟩
  have B := Lib.hid (And.intro hO hB)
  clear hO hB
  go_wp2
  go_ret2
  exact ⟨_, rfl, B.out.1, B.out.2⟩
end Go.Proofs.Ytjghhcbiaklomaa

/-
  Contracts of package lines' Get and New.
-/
namespace Go.Proofs.Ytjghhcbiaklomaa
set_option maxRecDepth 100000
open Go.RowKit

theorem lget_nil (a : Int) (w : World) : Calls Try.prog 50 #[.pointer none, .int .i64 a] w fun e w' => e = .returned (.tuple #[.agg (lc zeros), .int .i64 1]) ∧ Below w.heap.size w w' :=
  by
  have HB := Lib.hid (bal (o := .cells (lc zeros) 39) (Below.refl w.heap.size w))
  have HN := Lib.hid (Ln.new w (l := zeros) rfl)
  have hz8 : zeros.length = 8 := rfl
  go_enter Try.func50, Try.ntmps50
  go_wp2_with fail
  refine (lready_nil a _).mono ?_; rintro e w' ⟨rfl, rfl⟩
  go_wp2
  exact bodyPost_ret (v := .tuple #[.agg (lc zeros), .int .i64 1]) (results_cell_tmp rfl _ _ _ _ _ _ _ _ rfl rfl HN.out.1 Try.underlying39 rfl (by rw [info_line]; rfl)) rfl ⟨rfl, HB.out⟩
theorem lget_out (q g S P : Nat) (a : Int) (w : World) (h : Lq w q g S P) (ha : ¬ (0 ≤ a ∧ a < S)) :
    Calls Try.prog 50 #[.pointer (some ⟨q, 0, none⟩), .int .i64 a] w fun e w' => e = .returned (.tuple #[.agg (lc zeros), .int .i64 1]) ∧ Below w.heap.size w w' := by
  have C := Lib.hid (ready_out q g S P a _ (h.alloc (.cells (lc zeros) 39)) ha)
  have HB := Lib.hid (bal (o := .cells (lc zeros) 39) (Below.refl w.heap.size w))
  have HN := Lib.hid (Ln.new w (l := zeros) rfl)
  have hz8 : zeros.length = 8 := rfl
  clear h ha
  go_enter Try.func50, Try.ntmps50
  go_wp2_with fail
  refine (C.out).mono ?_; rintro e w' ⟨rfl, rfl⟩
  go_wp2
  exact bodyPost_ret (v := .tuple #[.agg (lc zeros), .int .i64 1]) (results_cell_tmp rfl _ _ _ _ _ _ _ _ rfl rfl HN.out.1 Try.underlying39 rfl (by rw [info_line]; rfl)) rfl ⟨rfl, HB.out⟩

theorem lget_dark (q g S P : Nat) (s : Nv) (a : Int) (w : World) (h : Lq w q g S P) (hN : Nm w g s) (ha : 0 ≤ a) (has : a < S) (hd : s.dark = true) :
    Calls Try.prog 50 #[.pointer (some ⟨q, 0, none⟩), .int .i64 a] w fun e w' => e = .returned (.tuple #[.agg (lc zeros), .int .i64 2]) ∧ Below w.heap.size w w' := by
  have C := Lib.hid (ready_dark q g S P s a _ (h.alloc (.cells (lc zeros) 39)) (hN.alloc (.cells (lc zeros) 39)) ha has hd)
  have HB := Lib.hid (bal (o := .cells (lc zeros) 39) (Below.refl w.heap.size w))
  have HN := Lib.hid (Ln.new w (l := zeros) rfl)
  have hz8 : zeros.length = 8 := rfl
  clear h hN ha has
  go_enter Try.func50, Try.ntmps50
  go_wp2_with fail
  refine (C.out).mono ?_; rintro e w' ⟨rfl, rfl⟩
  go_wp2
  exact bodyPost_ret (v := .tuple #[.agg (lc zeros), .int .i64 2]) (results_cell_tmp rfl _ _ _ _ _ _ _ _ rfl rfl HN.out.1 Try.underlying39 rfl (by rw [info_line]; rfl)) rfl ⟨rfl, HB.out⟩

set_option maxHeartbeats 1000000 in
theorem lget_live (q g S P : Nat) (s : Nv) (a : Int) (w : World) (h : Lq w q g S P) (hN : Nm w g s) (ho : s.Ok) (hP : P ≤ 16) (hS : S ≤ 1000) (ha : 0 ≤ a) (has : a < S) (hd : s.dark = false) (pl : Int) (x : List Int) (y : Int) (hpl : placeT (s.tb P) S a = pl) (hx : s.get pl = x) (hy : s.rdy (s.has pl) = y) (h8 : x.length = 8) :
    Calls Try.prog 50 #[.pointer (some ⟨q, 0, none⟩), .int .i64 a] w fun e w' => e = .returned (.tuple #[.agg (lc x), .int .i64 y]) ∧ Below w.heap.size w w' := by
  have GC := Lib.hid (fun (w' : World) (hn : Nm w' g s) => get_any g s pl w' hn ho)
  rw [hx, hy] at GC
  have HP := Lib.hid hpl
  clear hx hy hpl
  obtain ⟨W0, hW0, H0⟩ := boxed1 w (a := [0, 0, 0, 0, 0, 0, 0, 0]) rfl
  have L0 := Lib.hid (h.below (H0.out.2.mono (Nat.le_refl _)))
  have N0 := Lib.hid (hN.below (H0.out.2.mono (Nat.le_refl _)))
  have C := Lib.hid (ready_live q g S P s a W0 L0.out N0.out hP ha has hd)
  have hT := s.tb_length P
  have q0 : Hid (q ≠ w.heap.size) := Lib.hid (Nat.ne_of_lt h.lt)
  clear h hN hd ho
  go_enter Try.func50, Try.ntmps50
  go_wp2_with fail
  refine (C.out).mono ?_; rintro e W ⟨v, rfl, hO, hB⟩
  have L1 := Lib.hid (L0.out.below (hB.mono (Nat.le_refl _)))
  have N1 := Lib.hid (N0.out.below (hB.mono (Nat.le_refl _)))
  have B1 := Lib.hid (below_more H0.out.2 hB)
  have G1 := Lib.hid (H0.out.1.below hB)
  have PC := Lib.hid (place_any v (s.tb P) S a W.drew hO.ru (by rw [hT]; omega))
  have c0 : ∀ w', Chg [w.heap.size] W w' → w'.cell? ⟨q, 0, none⟩ = some (.pointer (some ⟨g, 0, none⟩)) := fun w' hc => (L1.out.chg hc (by simpa using q0.out)).cells.1
  have c1 : ∀ w', Chg [w.heap.size] W w' → w'.cell? ⟨q, 1, none⟩ = some (.int .i64 (S : Int)) := fun w' hc => (L1.out.chg hc (by simpa using q0.out)).cells.2.1
  clear hO hB
  rw [HP.out] at PC
  have hbd : Below W.heap.size W W.drew := (Below.refl _ _).drew
  go_wp2
  go_region_held3 (fun w' => Chg [w.heap.size] W w')
    (first | assumption | exact (Chg.refl _ _).drew | exact Chg.setRow (by assumption) (.inl (by simp)) _)
    (first
      | (go_at_call 61; refine (PC.out).mono ?_; rintro e wz ⟨rfl, hbz⟩
         have NZ := Lib.hid (N1.out.below (hbd.trans hbz))
         have GZ := Lib.hid (G1.out.below (hbd.trans hbz))
         have CZ := Lib.hid (Chg.of_below (hbd.trans hbz) [w.heap.size])
         clear hbz)
      | (go_at_call 60; refine (GC.out _ NZ.out).mono ?_; rintro e wy ⟨rfl, hby⟩
         have GY := GZ.out.below hby
         have hst := GY.store h8
         have FY := Lib.hid (GY.put h8)
         have CY := Lib.hid (CZ.out.trans (Chg.of_below hby [w.heap.size]))
         clear hby GY))
  have BF := Lib.hid ((CY.out.setRow (g := w.heap.size) (.inl (by simp)) (lc x)).below B1.out B1.out.size (fun k hk => by rw [List.mem_singleton.1 hk]; exact Nat.le_refl _))
  go_wp2
  exact bodyPost_ret (v := .tuple #[.agg (lc x), .int .i64 y]) (results_cell_tmp rfl _ _ _ _ _ _ _ _ rfl rfl FY.out.1 Try.underlying39 rfl (by rw [info_line, lc_size, h8])) rfl ⟨rfl, BF.out⟩

/-- what a slot holds is told -/
theorem lget_is {q g S P : Nat} {s : Nv} {a : Nat} {x : List Int} {w : World} (hx : hold s S P a = x) (H : LOk s S P) (ha : a < S) (h : Lq w q g S P) (hN : Nm w g s) :
    Calls Try.prog 50 #[.pointer (some ⟨q, 0, none⟩), .int .i64 (a : Int)] w fun e w' => e = .returned (.tuple #[.agg (lc x), .int .i64 0]) ∧ Below w.heap.size w w' := by
  obtain ⟨i, ei, hi⟩ := place_nat (t := s.tb P) ha
  rw [s.tb_length] at hi
  have hin : i < s.n := by rw [H.n]; exact hi
  have hr : s.rdy (s.has (i : Int)) = 0 := by simp [Nv.rdy, Nv.has_of hin, H.live]
  have hh : s.get (i : Int) = hold s S P a := by unfold hold; rw [ei]; simp only [Nv.get, hr, if_true]
  rw [← hx]
  have h200 := H.ok.hi
  have hn := H.n
  exact lget_live q g S P s a w h hN H.ok H.p (by omega) (by omega) (by omega) H.live _ _ _ ei hh hr (H.ok.line _)

theorem lnew_null (S P : Int) (w : World) : Calls Try.prog 39 #[.pointer none, .int .i64 S, .int .i64 P] w fun e w' => e = .returned (.pointer none) ∧ w = w' := by
  go_enter Try.func39, Try.ntmps39
  go_wp2_with fail
  go_ret
  exact ⟨rfl, rfl⟩
theorem lnew_few (g : Nat) (S P : Int) (w : World) (hb : S < 1 ∨ (1 ≤ S ∧ P < 0) ∨ (1 ≤ S ∧ 16 < P)) :
    Calls Try.prog 39 #[.pointer (some ⟨g, 0, none⟩), .int .i64 S, .int .i64 P] w fun e w' => e = .returned (.pointer none) ∧ w = w' := by
  rcases hb with h | ⟨h1, h⟩ | ⟨h1, h⟩
  · go_enter Try.func39, Try.ntmps39
    go_wp2_with fail
    go_ret
    exact ⟨rfl, rfl⟩
  · go_enter Try.func39, Try.ntmps39
    go_wp2_with fail
    go_ret
    exact ⟨rfl, rfl⟩
  · have h2 : ¬ P < 0 := by omega
    go_enter Try.func39, Try.ntmps39
    go_wp2_with fail
    go_ret
    exact ⟨rfl, rfl⟩
theorem lnew_size (g : Nat) (s : Nv) (S P : Nat) (w : World) (hN : Nm w g s) (h1 : 1 ≤ S) (hP : P ≤ 16) (hn : s.n ≤ 200) (hb : ¬ s.n = S + P) :
    Calls Try.prog 39 #[.pointer (some ⟨g, 0, none⟩), .int .i64 (S : Int), .int .i64 (P : Int)] w fun e w' => e = .returned (.pointer none) ∧ w = w' := by
  have C := Lib.hid (lines_any g s w hN)
  have i1 : ¬ (S : Int) < 1 := by omega
  have i2 : ¬ (P : Int) < 0 := by omega
  have i3 : ¬ (P : Int) > 16 := by omega
  have i4 : IntKind.i64.wrap ((s.n : Int) - (P : Int)) = (s.n : Int) - (P : Int) := IntWalk.i64_in _ (by omega)
  have i5 : ((s.n : Int) - (P : Int) != (S : Int)) = true := by simp; omega
  generalize s.n = n at *
  clear hN hb
  go_enter Try.func39, Try.ntmps39
  go_wp2_with fail
  refine (C.out).mono ?_; rintro e w' ⟨rfl, rfl⟩
  go_wp2_with fail
  go_ret
  exact ⟨rfl, rfl⟩
theorem lq_new (w : World) (g S P : Nat) : Lq (w.alloc (.cells #[.pointer (some ⟨g, 0, none⟩), .int .i64 (S : Int), .int .i64 (P : Int)] 91)) w.heap.size g S P := heap_alloc_last w _
theorem lnew_bad (g : Nat) (s : Nv) (S P : Nat) (w : World) (hN : Nm w g s) (h1 : 1 ≤ S) (hP : P ≤ 16) (hS : S ≤ 1000) (hn : s.n = S + P) (hd : s.dark = false) (b : Bool) (hm : mayT (s.tb P) S = b) :
    Calls Try.prog 39 #[.pointer (some ⟨g, 0, none⟩), .int .i64 (S : Int), .int .i64 (P : Int)] w fun e w' => (b = false → e = .returned (.pointer none)) ∧ (b = true → ∃ q, e = .returned (.pointer (some ⟨q, 0, none⟩)) ∧ w.heap.size ≤ q ∧ Lq w' q g S P) ∧ Below w.heap.size w w' := by
  have C := Lib.hid (lines_any g s w hN)
  have L1 := Lib.hid (lq_new w g S P)
  have B1 := Lib.hid (bal (o := .cells #[.pointer (some ⟨g, 0, none⟩), .int .i64 (S : Int), .int .i64 (P : Int)] 91) (Below.refl w.heap.size w))
  have T := Lib.hid (table_live w.heap.size g S P s _ L1.out (hN.alloc _) hP hd)
  have i1 : ¬ (S : Int) < 1 := by omega
  have i2 : ¬ (P : Int) < 0 := by omega
  have i3 : ¬ (P : Int) > 16 := by omega
  have i4 : IntKind.i64.wrap ((s.n : Int) - (P : Int)) = (S : Int) := by rw [show (s.n : Int) - (P : Int) = (S : Int) by omega]; exact IntWalk.i64_in _ (by omega)
  have wS : (Lit.int .i64 (S : Int)).wf = true := i64_of (by omega) (by omega)
  have M := Lib.hid (fun (v : Value) (w' : World) (hR : RU w' v (s.tb P)) => may_any v (s.tb P) (S : Int) w' hR wS)
  rw [hm] at M
  generalize s.n = n at *
  clear hN hm wS
  go_enter Try.func39, Try.ntmps39
  go_wp2_with fail
  refine (C.out).mono ?_; rintro e w' ⟨rfl, rfl⟩
  go_wp2_with fail
  refine (T.out).mono ?_; rintro e w1 ⟨v, rfl, hO, hB⟩
  have R := Lib.hid (M.out v w1 hO.ru)
  have B2 := Lib.hid (below_more B1.out hB)
  have L2 := Lib.hid (L1.out.below hB)
  clear hO hB
  cases b
  · go_wp2_with fail
    refine (R.out).mono ?_; rintro e w' ⟨rfl, rfl⟩
    go_wp2
    go_ret
    exact ⟨rfl, B2.out⟩
  · go_wp2_with fail
    refine (R.out).mono ?_; rintro e w' ⟨rfl, rfl⟩
    go_wp2
    go_ret
    exact ⟨⟨_, rfl, Nat.le_refl _, L2.out⟩, B2.out⟩
theorem lnew_yes {g : Nat} {s : Nv} {S P : Nat} {w : World} (H : LOk s S P) (hN : Nm w g s) :
    Calls Try.prog 39 #[.pointer (some ⟨g, 0, none⟩), .int .i64 (S : Int), .int .i64 (P : Int)] w fun e w' => ∃ q, e = .returned (.pointer (some ⟨q, 0, none⟩)) ∧ w.heap.size ≤ q ∧ Lq w' q g S P ∧ Below w.heap.size w w' := by
  have h200 := H.ok.hi
  have hn := H.n
  refine (lnew_bad g s S P w hN H.s1 H.p (by omega) H.n H.live true H.may).mono ?_
  rintro e w' ⟨_, h, hB⟩
  obtain ⟨q, h1, h2, h3⟩ := h rfl
  exact ⟨q, h1, h2, h3, hB⟩
end Go.Proofs.Ytjghhcbiaklomaa

/-
  Contract of package lines' replace.
-/
namespace Go.Proofs.Ytjghhcbiaklomaa
set_option maxRecDepth 100000
open Go.RowKit

theorem OwnU.chg {B : Nat} {D : List Nat} {w w' : World} {v : Value} {l : List Int} (h : OwnU B w v l) (hc : Chg D w w') (hD : ∀ k ∈ D, k < B) : OwnU B w' v l := by
  refine ⟨h.1, h.2.imp id ?_⟩
  rintro ⟨g, cap, cur, hv, h1, hg, r⟩
  exact ⟨g, cap, cur, hv, h1, (hc.block g (Array.getElem?_eq_some_iff.1 hg).1 (fun hk => by have := hD g hk; omega)).trans hg, r⟩
theorem OwnU.drew {B : Nat} {w : World} {v : Value} {l : List Int} (h : OwnU B w v l) : OwnU B w.drew v l := h.below (Below.refl _ _).drew

/-- how it stands ahead of each try: w0 is the world of Put's start -/
structure RInv (w0 wr : World) (q g b : Nat) (v : Value) (S P : Nat) (a : Int) (d : List Int) (R : Int × Nv) (n : Nat) (t : List Int) (s : Nv) : Prop where
  own : OwnU w0.heap.size wr v t
  len : t.length = P
  nm : Nm wr g s
  lq : Lq wr q g S P
  ln : Ln wr b d
  chg : Chg [g] w0 wr
  ok : s.Ok
  c : s.c + 2 * n < 4611686018427387904
  fuel : P < n + zeroT t
  eq : repl S a d n t s = R
theorem RInv.more {w0 wr : World} {q g b : Nat} {v : Value} {S P : Nat} {a : Int} {d : List Int} {R : Int × Nv} {n : Nat} {t : List Int} {s : Nv} (h : RInv w0 wr q g b v S P a d R n t s) : ∃ m, n = m + 1 := by
  have := h.fuel; have := zeroT_le t; have := h.len
  exact ⟨n - 1, by omega⟩

/-- one try -/
theorem repl_none {S n : Nat} {a : Int} {d t : List Int} {s : Nv} (h : ¬ zeroT t < t.length) : repl S a d n t s = (3, s) := by
  cases n
  · rfl
  · rw [repl, if_neg h]
theorem repl_ok {S n k : Nat} {a : Int} {d t : List Int} {s : Nv} (hz : zeroT t = k) (h : k < t.length) (he : s.putE ((S + k : Nat) : Int) = 0) :
    repl S a d (n + 1) t s = ((s.put ((S + k : Nat) : Int) d).setE ((3 + k : Nat) : Int), (s.put ((S + k : Nat) : Int) d).set ((3 + k : Nat) : Int) (a + 1)) := by
  have e1 : (S : Int) + (k : Int) = ((S + k : Nat) : Int) := by omega
  have e2 : (3 : Int) + (k : Int) = ((3 + k : Nat) : Int) := by omega
  rw [repl, hz, if_pos h, e1, e2, if_pos he]
theorem repl_worn {S n k : Nat} {a : Int} {d t : List Int} {s : Nv} (hz : zeroT t = k) (h : k < t.length) (he : s.putE ((S + k : Nat) : Int) = 3) (he2 : (s.put ((S + k : Nat) : Int) d).setE ((3 + k : Nat) : Int) = 0) :
    repl S a d (n + 1) t s = repl S a d n (t.set k ((S : Int) + 1)) ((s.put ((S + k : Nat) : Int) d).set ((3 + k : Nat) : Int) ((S : Int) + 1)) := by
  have e1 : (S : Int) + (k : Int) = ((S + k : Nat) : Int) := by omega
  have e2 : (3 : Int) + (k : Int) = ((3 + k : Nat) : Int) := by omega
  rw [repl, hz, if_pos h, e1, e2, if_neg (by rw [he]; decide), if_pos he, if_pos he2]
theorem repl_wornE {S n k : Nat} {a : Int} {d t : List Int} {s : Nv} (hz : zeroT t = k) (h : k < t.length) (he : s.putE ((S + k : Nat) : Int) = 3) (he2 : ¬ (s.put ((S + k : Nat) : Int) d).setE ((3 + k : Nat) : Int) = 0) :
    repl S a d (n + 1) t s = ((s.put ((S + k : Nat) : Int) d).setE ((3 + k : Nat) : Int), (s.put ((S + k : Nat) : Int) d).set ((3 + k : Nat) : Int) ((S : Int) + 1)) := by
  have e1 : (S : Int) + (k : Int) = ((S + k : Nat) : Int) := by omega
  have e2 : (3 : Int) + (k : Int) = ((3 + k : Nat) : Int) := by omega
  rw [repl, hz, if_pos h, e1, e2, if_neg (by rw [he]; decide), if_pos he, if_neg he2]
theorem repl_else {S n k : Nat} {a : Int} {d t : List Int} {s : Nv} (hz : zeroT t = k) (h : k < t.length) (he : ¬ s.putE ((S + k : Nat) : Int) = 0) (he3 : ¬ s.putE ((S + k : Nat) : Int) = 3) :
    repl S a d (n + 1) t s = (s.putE ((S + k : Nat) : Int), s.put ((S + k : Nat) : Int) d) := by
  have e1 : (S : Int) + (k : Int) = ((S + k : Nat) : Int) := by omega
  rw [repl, hz, if_pos h, e1, if_neg he, if_neg he3]

set_option maxHeartbeats 2000000 in
theorem replace_any (q g S P : Nat) (s : Nv) (a : Int) (d t : List Int) (v : Value) (w0 w : World) (h : Lq w q g S P) (hN : Nm w g s) (hO : OwnU w0.heap.size w v t) (ht : t.length = P) (hC : Chg [g] w0 w) (hq : q < w0.heap.size) (hg : g < w0.heap.size) (hqg : q ≠ g)
    (hP : P ≤ 16) (hS : S ≤ 1000) (hS1 : 1 ≤ S) (ha : 0 ≤ a) (has : a < S) (ho : s.Ok) (hc : s.c + 100 < 4611686018427387904) (hd : d.length = 8) :
    Calls Try.prog 69 #[.pointer (some ⟨q, 0, none⟩), v, .int .i64 a, .agg (lc d)] w fun e w' => e = .returned (.int .i64 (repl S a d (P + 1) t s).1) ∧ Nm w' g (repl S a d (P + 1) t s).2 ∧ Chg [g] w0 w' := by
  obtain ⟨R, hR⟩ : ∃ R, repl S a d (P + 1) t s = R := ⟨_, rfl⟩
  have hB := hC.size
  have OD := hO.below (bal (o := .cells (lc d) 39) (Below.refl w.heap.size w))
  have NX := Lib.hid (next_any v t _ OD.ru)
  have I0 : Hid (RInv w0 (w.alloc (.cells (lc d) 39)) q g w.heap.size v S P a d R (P + 1) t s) :=
    Lib.hid ⟨OD, ht, hN.alloc _, h.alloc _, Ln.new w hd, hC.alloc _, ho, by push_cast; omega, by omega, hR⟩
  have bq : Hid (q ≠ w.heap.size ∧ g ≠ w.heap.size) := Lib.hid ⟨by omega, by omega⟩
  have bw : Hid (w0.heap.size ≤ w.heap.size) := Lib.hid hB
  rw [hR]
  have u1 : IntKind.u64.wrap a = a := by simp [IntKind.wrap, IntKind.signed, IntKind.bits]; omega
  have u2 : IntKind.u64.wrap (a + 1) = a + 1 := by simp [IntKind.wrap, IntKind.signed, IntKind.bits]; omega
  have wS : (Lit.int .i64 (S : Int)).wf = true := i64_of (by omega) (by omega)
  have DD := Lib.hid (fun w => dead_any (S : Int) w wS)
  rw [deadT_pos (by omega)] at DD
  have KK : Hid (g < w0.heap.size ∧ q ≠ g ∧ q < w0.heap.size) := Lib.hid ⟨hg, hqg, hq⟩
  have VB : Hid (∀ x n c, v = .slice (some ⟨x, 0, none⟩) n c → x < w.heap.size) := Lib.hid fun x n c e => by
    rcases hO.2 with ⟨e2, _⟩ | ⟨x2, cap, cur, e2, _, hh, _⟩ <;> rw [e2] at e <;> cases e
    exact (Array.getElem?_eq_some_iff.1 hh).1
  clear h hN hO hR hC ho hc hB OD wS hg hqg hq
  go_enter Try.func69, Try.ntmps69
  go_wp2_with fail
  refine (NX.out).mono ?_; rintro e w' ⟨rfl, rfl⟩
  go_wp2
  go_loopw [9] (fun p wr => ∃ n t' s', p = .int .i64 (nextT t') ∧ Hid (RInv w0 wr q g w.heap.size v S P a d R n t' s')) (fun p _ => if intOf p < 0 then 0 else P + 1 - (intOf p).toNat)
  case atStart => exact ⟨_, _, _, rfl, I0⟩
  case round =>
    obtain ⟨n, t', s', rfl, I⟩ := hrel
    by_cases hz : zeroT t' < t'.length
    · obtain ⟨m, rfl⟩ := I.out.more
      obtain ⟨x, cp, hv, hx0, hxl, hxc, hxm⟩ := I.out.own.block (by omega)
      rw [I.out.len] at hv
      subst hv
      obtain ⟨k, hk⟩ : ∃ k, zeroT t' = k := ⟨_, rfl⟩
      have hnx : nextT t' = (k : Int) := by rw [nextT, if_pos hz, hk]
      have ZS := Lib.hid (fun y hy => zeroT_set (x := y) hz hy)
      rw [hk] at hz ZS
      have HZ := Lib.hid hk
      have HL := Lib.hid hz
      have hkP : k < P := by have := I.out.len; omega
      rw [hnx]
      have i0 : (0 : Int) ≤ (k : Int) := by omega
      have i1 : (k : Int) < (P : Int) := by omega
      have k1 : IntKind.i64.wrap ((S : Int) + (k : Int)) = ((S + k : Nat) : Int) := by rw [show (S : Int) + (k : Int) = ((S + k : Nat) : Int) by omega]; exact IntWalk.i64_in _ (by omega)
      have k2 : IntKind.i64.wrap (3 + (k : Int)) = ((3 + k : Nat) : Int) := by rw [show 3 + (k : Int) = ((3 + k : Nat) : Int) by omega]; exact IntWalk.i64_in _ (by omega)
      have Q0 : Lq wr.drew q g S P := I.out.lq
      obtain ⟨d0, d1, _⟩ := Q0.cells
      have Ld : Ln wr.drew w.heap.size d := I.out.ln
      have ll := Ld.load
      have hcs := I.out.c
      have nmd : Nm wr.drew g s' := I.out.nm
      have PC := Lib.hid (put_any g s' ((S + k : Nat) : Int) d wr.drew nmd I.out.ok (by omega) hd)
      have OK1 := Lib.hid (I.out.ok.put hd ((S + k : Nat) : Int))
      have c1s := s'.put_c ((S + k : Nat) : Int) d
      have C1S : Hid ((s'.put ((S + k : Nat) : Int) d).c < 4611686018427387904) := Lib.hid (by omega)
      have hgx : Hid (g ≠ x) := Lib.hid (by have := KK.out.1; omega)
      have hqx : Hid (q ≠ x) := Lib.hid (by have := KK.out.2.2; omega)
      have hbx : Hid (w.heap.size ≠ x) := Lib.hid (Nat.ne_of_gt (VB.out _ _ _ rfl))
      clear hcs nmd hk hz Q0 Ld c1s hnx
      by_cases he0 : s'.putE ((S + k : Nat) : Int) = 0
      · rw [he0] at PC
        go_wp2
        refine wp_region_still_tail 11 (by kernel_rfl) (by kernel_rfl) ?_
        simp only [List.take_succ_cons, List.take_zero, List.drop_succ_cons, List.drop_zero]
        change wpStill _ _ (World.drew _) _ _ _
        repeat still_step
        refine wpStill_nil ?_
        change wpList _ _ _ _ _ (World.drew _)
        go_wp2_with fail
        refine (PC.out).mono ?_; rintro e w2 ⟨rfl, hN2, hC2⟩
        have N2 := Lib.hid hN2
        have C2 := Lib.hid (I.out.chg.drew.trans hC2)
        have O2 := Lib.hid (OwnU.chg I.out.own.drew hC2 (by simpa using KK.out.1))
        have V2 := Lib.hid (Lq.chg (show Lq wr.drew q g S P from I.out.lq) hC2 (by simpa using KK.out.2.1))
        have L2 := Lib.hid (Chg.ln hC2 (show Ln wr.drew w.heap.size d from I.out.ln) (by simpa using fun e => bq.out.2 e.symm))
        clear hN2 hC2 PC
        have own3 := OwnU.stored O2.out k (a + 1)
        have nm3 := N2.out.other (g' := x) (i := k) hgx.out (.int .u64 (a + 1))
        have cg3 := C2.out.setCell (p := ⟨x, k, none⟩) (.inr hx0) (.int .u64 (a + 1))
        have lq3 : Lq (w2.setCell ⟨x, k, none⟩ (.int .u64 (a + 1))) q g S P := Whole.other (p := ⟨x, k, none⟩) V2.out hqx.out _
        have ln3 := L2.out.other (g' := x) (i := k) hbx.out (.int .u64 (a + 1))
        obtain ⟨c1, f1⟩ := OwnU.cells O2.out (j := k) HL.out
        obtain ⟨W3, hW3⟩ : ∃ W3, w2.setCell ⟨x, k, none⟩ (.int .u64 (a + 1)) = W3 := ⟨_, rfl⟩
        rw [hW3] at own3 nm3 cg3 lq3 ln3
        have O3 := Lib.hid own3
        have N3 := Lib.hid nm3
        have C3 := Lib.hid cg3
        have V3 := Lib.hid lq3
        have L3 := Lib.hid ln3
        generalize t'.getD k 0 = z at c1
        have nmd : Nm W3.drew g (s'.put ((S + k : Nat) : Int) d) := nm3
        have SC := Lib.hid (set_any g (s'.put ((S + k : Nat) : Int) d) ((3 + k : Nat) : Int) (a + 1) W3.drew nmd OK1.out C1S.out)
        have Q3 : Lq W3.drew q g S P := lq3
        obtain ⟨g0, _, _⟩ := Q3.cells
        obtain ⟨g1, _⟩ := OwnU.cells own3.drew (j := k) (by rw [List.length_set]; exact HL.out)
        rw [getD_setT HL.out, if_pos rfl] at g1
        clear own3 nm3 cg3 lq3 ln3 nmd Q3
        go_wp2
        refine wp_region_still_tail 10 (by kernel_rfl) (by kernel_rfl) ?_
        simp only [List.take_succ_cons, List.take_zero, List.drop_succ_cons, List.drop_zero]
        change wpStill _ _ (World.drew _) _ _ _
        repeat still_step
        refine wpStill_nil ?_
        change wpList _ _ _ _ _ (World.drew _)
        go_wp2_with fail
        refine (SC.out).mono ?_; rintro e w5 ⟨rfl, hN5, hC5⟩
        have E := Lib.hid ((repl_ok HZ.out HL.out he0).symm.trans I.out.eq)
        have N5 := Lib.hid hN5
        have C5 := Lib.hid (C3.out.drew.trans hC5)
        clear hN5 hC5
        generalize (s'.put ((S + k : Nat) : Int) d).setE ((3 + k : Nat) : Int) = se at *
        by_cases hse : se = 0
        · subst hse
          go_wp2
          go_ret
          rw [← E.out]
          exact ⟨rfl, N5.out, C5.out⟩
        · have tse : (se != 0) = true := by simpa using hse
          go_wp2
          go_ret
          rw [← E.out]
          exact ⟨rfl, N5.out, C5.out⟩
      by_cases he3 : s'.putE ((S + k : Nat) : Int) = 3
      · rw [he3] at PC
        go_wp2
        refine wp_region_still_tail 11 (by kernel_rfl) (by kernel_rfl) ?_
        simp only [List.take_succ_cons, List.take_zero, List.drop_succ_cons, List.drop_zero]
        change wpStill _ _ (World.drew _) _ _ _
        repeat still_step
        refine wpStill_nil ?_
        change wpList _ _ _ _ _ (World.drew _)
        go_wp2_with fail
        refine (PC.out).mono ?_; rintro e w2 ⟨rfl, hN2, hC2⟩
        have N2 := Lib.hid hN2
        have C2 := Lib.hid (I.out.chg.drew.trans hC2)
        have O2 := Lib.hid (OwnU.chg I.out.own.drew hC2 (by simpa using KK.out.1))
        have V2 := Lib.hid (Lq.chg (show Lq wr.drew q g S P from I.out.lq) hC2 (by simpa using KK.out.2.1))
        have L2 := Lib.hid (Chg.ln hC2 (show Ln wr.drew w.heap.size d from I.out.ln) (by simpa using fun e => bq.out.2 e.symm))
        clear hN2 hC2 PC
        obtain ⟨_, v1, _⟩ := V2.out.cells
        have own3 := OwnU.stored O2.out k ((S : Int) + 1)
        have nm3 := N2.out.other (g' := x) (i := k) hgx.out (.int .u64 ((S : Int) + 1))
        have cg3 := C2.out.setCell (p := ⟨x, k, none⟩) (.inr hx0) (.int .u64 ((S : Int) + 1))
        have lq3 : Lq (w2.setCell ⟨x, k, none⟩ (.int .u64 ((S : Int) + 1))) q g S P := Whole.other (p := ⟨x, k, none⟩) V2.out hqx.out _
        have ln3 := L2.out.other (g' := x) (i := k) hbx.out (.int .u64 ((S : Int) + 1))
        obtain ⟨c1, f1⟩ := OwnU.cells O2.out (j := k) HL.out
        obtain ⟨W3, hW3⟩ : ∃ W3, w2.setCell ⟨x, k, none⟩ (.int .u64 ((S : Int) + 1)) = W3 := ⟨_, rfl⟩
        rw [hW3] at own3 nm3 cg3 lq3 ln3
        have O3 := Lib.hid own3
        have N3 := Lib.hid nm3
        have C3 := Lib.hid cg3
        have V3 := Lib.hid lq3
        have L3 := Lib.hid ln3
        generalize t'.getD k 0 = z at c1
        have nmd : Nm W3.drew g (s'.put ((S + k : Nat) : Int) d) := nm3
        have SC := Lib.hid (set_any g (s'.put ((S + k : Nat) : Int) d) ((3 + k : Nat) : Int) ((S : Int) + 1) W3.drew nmd OK1.out C1S.out)
        have Q3 : Lq W3.drew q g S P := lq3
        obtain ⟨g0, _, _⟩ := Q3.cells
        obtain ⟨g1, _⟩ := OwnU.cells own3.drew (j := k) (by rw [List.length_set]; exact HL.out)
        rw [getD_setT HL.out, if_pos rfl] at g1
        clear own3 nm3 cg3 lq3 ln3 nmd Q3
        go_wp2_with fail
        refine (DD.out _).mono ?_; rintro e w' ⟨rfl, rfl⟩
        go_wp2
        refine wp_region_still_tail 10 (by kernel_rfl) (by kernel_rfl) ?_
        simp only [List.take_succ_cons, List.take_zero, List.drop_succ_cons, List.drop_zero]
        change wpStill _ _ (World.drew _) _ _ _
        repeat still_step
        refine wpStill_nil ?_
        change wpList _ _ _ _ _ (World.drew _)
        go_wp2_with fail
        refine (SC.out).mono ?_; rintro e w5 ⟨rfl, hN5, hC5⟩
        have N5 := Lib.hid hN5
        have C5 := Lib.hid (C3.out.drew.trans hC5)
        have O5 := Lib.hid (OwnU.chg O3.out.drew hC5 (by simpa using KK.out.1))
        have V5 := Lib.hid (Lq.chg (show Lq W3.drew q g S P from V3.out) hC5 (by simpa using KK.out.2.1))
        have L5 := Lib.hid (Chg.ln hC5 (show Ln W3.drew w.heap.size d from L3.out) (by simpa using fun e => bq.out.2 e.symm))
        have OK5 := Lib.hid (OK1.out.set ((3 + k : Nat) : Int) ((S : Int) + 1))
        have s5c := (s'.put ((S + k : Nat) : Int) d).set_c ((3 + k : Nat) : Int) ((S : Int) + 1)
        have S5C := Lib.hid s5c
        clear hN5 hC5 s5c
        by_cases hse : (s'.put ((S + k : Nat) : Int) d).setE ((3 + k : Nat) : Int) = 0
        · have E := Lib.hid ((repl_worn HZ.out HL.out he3 hse).symm.trans I.out.eq)
          have NX5 := Lib.hid (next_any _ _ w5 O5.out.ru)
          rw [hse]
          go_wp2_with fail
          refine (NX5.out).mono ?_; rintro e w' ⟨rfl, rfl⟩
          have c5s := S5C.out
          have c6s := s'.put_c ((S + k : Nat) : Int) d
          have c7s := I.out.c
          have f5 := I.out.fuel
          have z5 := ZS.out ((S : Int) + 1) (by omega)
          have hzk := HZ.out
          have I5 : RInv w0 w5 q g w.heap.size (.slice (some ⟨x, 0, none⟩) P cp) S P a d R m (t'.set k ((S : Int) + 1)) ((s'.put ((S + k : Nat) : Int) d).set ((3 + k : Nat) : Int) ((S : Int) + 1)) :=
            ⟨O5.out, by rw [List.length_set]; exact I.out.len, N5.out, V5.out, L5.out, C5.out, OK5.out, by push_cast at c7s; omega, by omega, E.out⟩
          have HI := Lib.hid I5
          have HM : Hid ((if intOf (.int .i64 (nextT (t'.set k ((S : Int) + 1)))) < 0 then 0 else P + 1 - (intOf (.int .i64 (nextT (t'.set k ((S : Int) + 1))))).toNat) < (if intOf (.int .i64 (k : Int)) < 0 then 0 else P + 1 - (intOf (.int .i64 (k : Int))).toNat)) := Lib.hid (by
            have h1 : intOf (.int .i64 (k : Int)) = (k : Int) := rfl
            have h2 : intOf (.int .i64 (nextT (t'.set k ((S : Int) + 1)))) = nextT (t'.set k ((S : Int) + 1)) := rfl
            rw [h1, h2, if_neg (by omega : ¬ (k : Int) < 0)]
            unfold nextT
            by_cases hzz : zeroT (t'.set k ((S : Int) + 1)) < (t'.set k ((S : Int) + 1)).length
            · rw [if_pos hzz, if_neg (by omega)]; omega
            · rw [if_neg hzz, if_pos (by omega)]; omega)
          clear c5s c6s c7s f5 z5 hzk I5
          go_wp2
          exact ⟨⟨m, _, _, rfl, HI⟩, HM.out⟩
        · have E := Lib.hid ((repl_wornE HZ.out HL.out he3 hse).symm.trans I.out.eq)
          generalize (s'.put ((S + k : Nat) : Int) d).setE ((3 + k : Nat) : Int) = se at *
          have tse : (se != 0) = true := by simpa using hse
          go_wp2
          go_ret
          rw [← E.out]
          exact ⟨rfl, N5.out, C5.out⟩
      · have E := Lib.hid ((repl_else HZ.out HL.out he0 he3).symm.trans I.out.eq)
        generalize s'.putE ((S + k : Nat) : Int) = pe at *
        have te0 : (pe == 0) = false := by simpa using he0
        have te3 : (pe == 3) = false := by simpa using he3
        go_wp2
        refine wp_region_still_tail 11 (by kernel_rfl) (by kernel_rfl) ?_
        simp only [List.take_succ_cons, List.take_zero, List.drop_succ_cons, List.drop_zero]
        change wpStill _ _ (World.drew _) _ _ _
        repeat still_step
        refine wpStill_nil ?_
        change wpList _ _ _ _ _ (World.drew _)
        go_wp2_with fail
        refine (PC.out).mono ?_; rintro e w2 ⟨rfl, hN2, hC2⟩
        have N2 := Lib.hid hN2
        have C2 := Lib.hid (I.out.chg.drew.trans hC2)
        have O2 := Lib.hid (OwnU.chg I.out.own.drew hC2 (by simpa using KK.out.1))
        have V2 := Lib.hid (Lq.chg (show Lq wr.drew q g S P from I.out.lq) hC2 (by simpa using KK.out.2.1))
        have L2 := Lib.hid (Chg.ln hC2 (show Ln wr.drew w.heap.size d from I.out.ln) (by simpa using fun e => bq.out.2 e.symm))
        clear hN2 hC2 PC
        go_wp2
        go_ret
        rw [← E.out]
        exact ⟨rfl, N2.out, C2.out⟩
    · have hr : (3, s') = R := (repl_none hz).symm.trans I.out.eq
      have hnx : nextT t' = -1 := by rw [nextT, if_neg hz]
      rw [hnx]
      have NN := Lib.hid I.out.nm
      have CC := Lib.hid I.out.chg
      subst hr
      clear I
      go_wp2
      go_ret
      exact ⟨rfl, NN.out, CC.out⟩
end Go.Proofs.Ytjghhcbiaklomaa

/-
  Contract of package lines' Put.
-/
namespace Go.Proofs.Ytjghhcbiaklomaa
set_option maxRecDepth 100000
open Go.RowKit

theorem lput_nil (a : Int) (d : List Int) (w : World) : Calls Try.prog 58 #[.pointer none, .int .i64 a, .agg (lc d)] w fun e w' => e = .returned (.int .i64 1) ∧ Below w.heap.size w w' := by
  have HB := Lib.hid (bal (o := .cells (lc d) 39) (Below.refl w.heap.size w))
  go_enter Try.func58, Try.ntmps58
  go_wp2_with fail
  refine (lready_nil a _).mono ?_; rintro e w' ⟨rfl, rfl⟩
  go_wp2_with fail
  go_ret
  exact ⟨rfl, HB.out⟩
theorem lput_out_ (q g S P : Nat) (a : Int) (d : List Int) (w : World) (h : Lq w q g S P) (ha : ¬ (0 ≤ a ∧ a < S)) :
    Calls Try.prog 58 #[.pointer (some ⟨q, 0, none⟩), .int .i64 a, .agg (lc d)] w fun e w' => e = .returned (.int .i64 1) ∧ Below w.heap.size w w' := by
  have HB := Lib.hid (bal (o := .cells (lc d) 39) (Below.refl w.heap.size w))
  have C := Lib.hid (ready_out q g S P a _ (h.alloc (.cells (lc d) 39)) ha)
  clear h ha
  go_enter Try.func58, Try.ntmps58
  go_wp2_with fail
  refine (C.out).mono ?_; rintro e w' ⟨rfl, rfl⟩
  go_wp2_with fail
  go_ret
  exact ⟨rfl, HB.out⟩
theorem lput_dark (q g S P : Nat) (s : Nv) (a : Int) (d : List Int) (w : World) (h : Lq w q g S P) (hN : Nm w g s) (ha : 0 ≤ a) (has : a < S) (hd : s.dark = true) :
    Calls Try.prog 58 #[.pointer (some ⟨q, 0, none⟩), .int .i64 a, .agg (lc d)] w fun e w' => e = .returned (.int .i64 2) ∧ Below w.heap.size w w' := by
  have HB := Lib.hid (bal (o := .cells (lc d) 39) (Below.refl w.heap.size w))
  have C := Lib.hid (ready_dark q g S P s a _ (h.alloc (.cells (lc d) 39)) (hN.alloc _) ha has hd)
  clear h hN ha has hd
  go_enter Try.func58, Try.ntmps58
  go_wp2_with fail
  refine (C.out).mono ?_; rintro e w' ⟨rfl, rfl⟩
  go_wp2_with fail
  go_ret
  exact ⟨rfl, HB.out⟩

set_option maxHeartbeats 1000000 in
theorem lput_live (q g S P : Nat) (s : Nv) (a : Int) (d : List Int) (w : World) (h : Lq w q g S P) (hN : Nm w g s) (ho : s.Ok) (hP : P ≤ 16) (hS : S ≤ 1000) (ha : 0 ≤ a) (has : a < S) (hd : s.dark = false) (hd8 : d.length = 8) (hqg : q ≠ g) (hc : s.c + 200 < 4611686018427387904) :
    Calls Try.prog 58 #[.pointer (some ⟨q, 0, none⟩), .int .i64 a, .agg (lc d)] w fun e w' => e = .returned (.int .i64 (lput S P a d s).1) ∧ Nm w' g (lput S P a d s).2 ∧ Chg [g] w w' := by
  obtain ⟨R, hR⟩ : ∃ R, lput S P a d s = R := ⟨_, rfl⟩
  have ER := hR
  unfold lput at ER
  rw [if_pos ⟨ha, has⟩, hd] at ER
  simp only [Bool.false_eq_true, if_false] at ER
  rw [hR]
  obtain ⟨pl, hpl⟩ : ∃ pl, placeT (s.tb P) S a = pl := ⟨_, rfl⟩
  rw [hpl] at ER
  have HR := Lib.hid ER
  have HP := Lib.hid hpl
  obtain ⟨W0, hW0, H0⟩ := boxed1 w hd8
  have L0 := Lib.hid (h.below H0.out.2)
  have N0 := Lib.hid (hN.below H0.out.2)
  have C := Lib.hid (ready_live q g S P s a W0 L0.out N0.out hP ha has hd)
  have hT := s.tb_length P
  have PA := Lib.hid (fun (w' : World) (hn : Nm w' g s) => put_any g s pl d w' hn ho (by omega) hd8)
  have OK1 := Lib.hid (ho.put hd8 pl)
  have c1s := s.put_c pl d
  have C1S : Hid ((s.put pl d).c + 100 < 4611686018427387904) := Lib.hid (by omega)
  have KK : Hid (q < w.heap.size ∧ g < w.heap.size ∧ q ≠ g) := Lib.hid ⟨h.lt, hN.lt, hqg⟩
  clear h hN ho hR ER hpl hqg hc c1s
  go_enter Try.func58, Try.ntmps58
  go_wp2_with fail
  refine (C.out).mono ?_; rintro e W ⟨v, rfl, hO, hB⟩
  have L1 := Lib.hid (L0.out.below hB)
  have N1 := Lib.hid (N0.out.below hB)
  have B1 := Lib.hid (below_more H0.out.2 hB)
  have G1 := Lib.hid (H0.out.1.below hB)
  have O1 := Lib.hid (hO.mono H0.out.2.size)
  have PC := Lib.hid (place_any v (s.tb P) S a W.drew hO.ru (by rw [hT]; omega))
  have c0 : ∀ w', Chg [g] W w' → w'.cell? ⟨q, 0, none⟩ = some (.pointer (some ⟨g, 0, none⟩)) := fun w' hc => (L1.out.chg hc (by simpa using KK.out.2.2)).cells.1
  have c1 : ∀ w', Chg [g] W w' → w'.cell? ⟨q, 1, none⟩ = some (.int .i64 (S : Int)) := fun w' hc => (L1.out.chg hc (by simpa using KK.out.2.2)).cells.2.1
  have hbg : Hid (w.heap.size ∉ [g]) := Lib.hid (by have := KK.out.2.1; simp; omega)
  have l0 : ∀ w', Chg [g] W w' → (lineLoad (.pointer (some ⟨w.heap.size, 0, none⟩))).run Try.prog w' = .ok (.agg (lc d)) w' := fun w' hc => (hc.ln G1.out hbg.out).load
  clear hO hB
  rw [HP.out] at PC
  have hbd : Below W.heap.size W W.drew := (Below.refl _ _).drew
  go_wp2
  go_region_held3 (fun w' => Chg [g] W w')
    (first | assumption | exact (Chg.refl _ _).drew)
    (first
      | (go_at_call 61; refine (PC.out).mono ?_; rintro e wz ⟨rfl, hbz⟩
         have NZ := Lib.hid (N1.out.below (hbd.trans hbz))
         have CZ := Lib.hid (Chg.of_below (hbd.trans hbz) [g])
         clear hbz)
      | (go_at_call 68; refine (PA.out _ NZ.out).mono ?_; rintro e wy ⟨rfl, hNy, hCy⟩
         have NY := Lib.hid hNy
         have CY := Lib.hid (CZ.out.trans hCy)
         clear hNy hCy))
  have CW := Lib.hid ((Chg.of_below B1.out [g]).trans CY.out)
  have OY := Lib.hid (O1.out.chg CY.out (by simpa using KK.out.2.1))
  have LY := Lib.hid (L1.out.chg CY.out (by simpa using KK.out.2.2))
  have ly := (CY.out.ln G1.out hbg.out).load
  by_cases hp3 : s.putE pl = 3
  · have RP := Lib.hid (replace_any q g S P (s.put pl d) a d (s.tb P) v w wy LY.out NY.out OY.out hT CW.out KK.out.1 KK.out.2.1 KK.out.2.2 hP hS (by omega) ha has OK1.out C1S.out hd8)
    have ER := HR.out
    rw [if_pos hp3] at ER
    rw [ER] at RP
    rw [hp3]
    clear ER
    go_wp2_with fail
    refine (RP.out).mono ?_; rintro e wf ⟨rfl, hNf, hCf⟩
    have NF := Lib.hid hNf
    have CF := Lib.hid hCf
    clear hNf hCf
    go_wp2
    go_ret
    exact ⟨rfl, NF.out, CF.out⟩
  · have ER := HR.out
    rw [if_neg hp3] at ER
    obtain ⟨pe, hpe⟩ : ∃ pe, s.putE pl = pe := ⟨_, rfl⟩
    have H1 : Hid (pe = R.1) := Lib.hid (by rw [← ER, hpe])
    have H2 : Hid (Nm wy g R.2) := Lib.hid (by rw [← ER]; exact NY.out)
    rw [hpe] at hp3 ⊢
    have t0 : (pe == 3) = false := by simpa using hp3
    clear ER hpe hp3
    go_wp2
    go_ret
    exact ⟨ret_i64 H1.out, H2.out, CW.out⟩

theorem lput_any (q g S P : Nat) (s : Nv) (a : Int) (d : List Int) (w : World) (h : Lq w q g S P) (hN : Nm w g s) (ho : s.Ok) (hP : P ≤ 16) (hS : S ≤ 1000) (hd8 : d.length = 8) (hqg : q ≠ g) (hc : s.c + 200 < 4611686018427387904) :
    Calls Try.prog 58 #[.pointer (some ⟨q, 0, none⟩), .int .i64 a, .agg (lc d)] w fun e w' => e = .returned (.int .i64 (lput S P a d s).1) ∧ Nm w' g (lput S P a d s).2 ∧ Chg [g] w w' := by
  by_cases ha : 0 ≤ a ∧ a < S
  · cases hd : s.dark
    · exact lput_live q g S P s a d w h hN ho hP hS ha.1 ha.2 hd hd8 hqg hc
    · refine (lput_dark q g S P s a d w h hN ha.1 ha.2 hd).mono ?_
      rintro e w' ⟨rfl, hb⟩
      rw [lput, if_pos ha, hd]
      exact ⟨rfl, hN.below hb, Chg.of_below hb _⟩
  · refine (lput_out_ q g S P a d w h ha).mono ?_
    rintro e w' ⟨rfl, hb⟩
    rw [lput, if_neg ha]
    exact ⟨rfl, hN.below hb, Chg.of_below hb _⟩
end Go.Proofs.Ytjghhcbiaklomaa

/-
  Contracts of package lines at known values; 'awake' of layer 7's statements.
-/
namespace Go.Proofs.Ytjghhcbiaklomaa
set_option maxRecDepth 100000
open Go.RowKit

theorem Out.lok {s s' : Nv} {S P a : Nat} {d : List Int} {e : Int} (o : Out s s' S P a d e) (h : LOk s S P) (hl : s'.dark = false) : LOk s' S P := ⟨o.ok, o.n.trans h.n, h.p, o.may, hl⟩
theorem newNv_tb (n P : Nat) (lim : List Int) : (newNv n lim).tb P = List.replicate P 0 := by
  refine list_ext (by simp [Nv.tb]) fun i hi => ?_
  rw [Nv.tb_length] at hi
  rw [Nv.tb_getD _ hi]; simp [newNv, hi]
theorem newNv_lok {S P : Nat} (h1 : 1 ≤ S) (hP : P ≤ 16) (h2 : S + P ≤ 200) (lim : List Int) : LOk (newNv (S + P) lim) S P := by
  refine ⟨newNv_ok (by omega) h2 lim, rfl, hP, ?_, rfl⟩
  rw [newNv_tb]
  refine good_mayT (by omega) fun k hk => ?_
  have e : ∀ j, (List.replicate P (0 : Int)).getD j 0 = 0 := fun j => by
    by_cases hj : j < P
    · simp [hj]
    · rw [List.getD_eq_getElem?_getD, List.getElem?_eq_none (by simpa using Nat.le_of_not_lt hj)]; rfl
  unfold Good
  rw [e]
  exact ⟨by omega, fun h => h.2.1 rfl⟩
theorem newNv_left (n P : Nat) (lim : List Int) : leftT ((newNv n lim).tb P) = P := by
  have := chainT_left (p := P) (n := 0) (x := 1) (Nat.zero_le _) (by decide)
  rw [newNv_tb, ← chainT_zero P 1, this]; rfl

section
variable {q g S P : Nat} {s s' : Nv} {w : World}
theorem lput_is {a : Int} {d : List Int} {x : Int} (hx : lput S P a d s = (x, s')) (H : LOk s S P) (hd8 : d.length = 8) (hqg : q ≠ g) (hc : s.c + 200 < 4611686018427387904) (h : Lq w q g S P) (hN : Nm w g s) :
    Calls Try.prog 58 #[.pointer (some ⟨q, 0, none⟩), .int .i64 a, .agg (lc d)] w fun e w' => e = .returned (.int .i64 x) ∧ Nm w' g s' ∧ Chg [g] w w' := by
  have h200 := H.ok.hi
  have hn := H.n
  refine (lput_any q g S P s a d w h hN H.ok H.p (by omega) hd8 hqg hc).mono ?_
  rintro e w' ⟨rfl, hN, hC⟩
  rw [hx] at hN ⊢
  exact ⟨rfl, hN, hC⟩
end

theorem awake_plain7 : ∃ s1, lput 5 2 0 [4, 0, 0, 0, 0, 0, 0, 0] (newNv 7 [0]) = (0, s1) ∧ LOk (newNv 7 [0]) 5 2 ∧ LOk s1 5 2 ∧ hold s1 5 2 0 = [4, 0, 0, 0, 0, 0, 0, 0] ∧ leftT (s1.tb 2) = 1 := by
  have H := newNv_lok (S := 5) (P := 2) (by decide) (by decide) (by decide) [0]
  obtain ⟨o, _⟩ := lput_out (a := 0) (d := [4, 0, 0, 0, 0, 0, 0, 0]) H rfl (by decide)
  have e0 : (lput 5 2 ((0 : Nat) : Int) [4, 0, 0, 0, 0, 0, 0, 0] (newNv (5 + 2) [0])).1 = 0 := by decide
  have l0 : leftT ((lput 5 2 ((0 : Nat) : Int) [4, 0, 0, 0, 0, 0, 0, 0] (newNv (5 + 2) [0])).2.tb 2) = 1 := by decide
  refine ⟨_, Prod.ext e0 rfl, H, ?_⟩
  rcases o.own with ⟨_, h1, h2⟩ | ⟨h, _⟩ | ⟨h, _⟩
  · exact ⟨o.lok H h1, h2, l0⟩
  · rw [e0] at h; cases h
  · rw [e0] at h; cases h

end Go.Proofs.Ytjghhcbiaklomaa
