/-
  append of ints and of steps onto a slice of a call's own, whatever can be read behind it.
-/
import Derived.Test.YtlgjfhjnfimahaaMem
import Derived.OwnWalk
namespace Go.Proofs.Ytlgjfhjnfimahaa
open Go.RowKit

theorem iv_one (l : List Int) : ∀ u ∈ l.map iv, u.oneCell' = true := by
  intro u hu; obtain ⟨x, _, rfl⟩ := List.mem_map.1 hu; rfl
theorem fl_one (l : List (Int × Int)) : ∀ u ∈ fl l, u.oneCell' = true := by
  intro u hu
  obtain ⟨x, _, hx⟩ := List.mem_flatMap.1 hu
  simp only [List.mem_cons, List.not_mem_nil, or_false] at hx
  rcases hx with rfl | rfl <;> rfl
theorem fl_get (l : List (Int × Int)) (j : Nat) (u : Value) (h : (fl l)[j]? = some u) : ∃ i, i < l.length ∧ ((j = i * 2 ∧ u = iv (l.getD i (0, 0)).1) ∨ (j = i * 2 + 1 ∧ u = iv (l.getD i (0, 0)).2)) := by
  have hj : j < l.length * 2 := by rw [← fl_length]; exact (List.getElem?_eq_some_iff.1 h).1
  refine ⟨j / 2, by omega, ?_⟩
  obtain ⟨x, y⟩ := fl_at l (j / 2) (by omega)
  rcases Nat.mod_two_eq_zero_or_one j with e | e
  · left
    refine ⟨by omega, ?_⟩
    rw [show j = j / 2 * 2 by omega, x] at h; cases h; rfl
  · right
    refine ⟨by omega, ?_⟩
    rw [show j = j / 2 * 2 + 1 by omega, y] at h; cases h; rfl

/-- nothing behind it -/
theorem run_app_none {P : Program} (w : World) (base : Nat) (t ty e : TypeId) (i : TypeInfo) (size : Nat) (ht : P.underlying t = some (.slice e)) (hi : P.info? e = some i)
    (v : Value) (n : Nat) (xs : List Value) (hown : w.ownsRow base e size v n xs) (c : Nat) : (Builtin.append_ #[t, t] ty #[v, .slice none 0 c]).run P w = .ok v w := by
  obtain ⟨_, ⟨rfl, rfl⟩ | ⟨g, cap, cur, rfl, _, _, hc, _⟩⟩ := hown <;> simp [Builtin.append_, run_underlying ht, sizeOf, typeInfo, Builtin.lenOf, Builtin.firstCells, storeCells, *]

theorem run_app_int (B : Nat) (v : Value) (l : List Int) (w : World) (hown : OwnI B w v l) (u : Value) (r : List Int) (hr : RI w u r) (hlen : l.length + r.length ≤ 1000000) (hB : B ≤ w.heap.size) (ty : TypeId) :
    ∃ v' w', (Builtin.append_ #[22, 22] ty #[v, u]).run Try.prog w = .ok v' w' ∧ OwnI B w' v' (l ++ r) ∧ w.grownBy w' v.ownBlock ∧ (v'.ownBlock = v.ownBlock ∨ v'.ownBlock = some w.heap.size) := by
  obtain ⟨i0, hi, hz0, hz1, hz2⟩ := info_parts info_int
  obtain ⟨A, c, rfl, h1, h2, h3⟩ := hr
  have fin : ∀ w' v', w'.ownsRow B 3 1 v' (l.length + r.length) (l.map iv ++ r.map iv) → OwnI B w' v' (l ++ r) := fun w' v' h => by
    unfold OwnI; rw [List.length_append, List.map_append]; exact h
  cases A with
  | none =>
    have hr0 : r = [] := by
      rcases h3 with h3 | ⟨b, off, h, _⟩
      · exact h3
      · cases h
    subst hr0
    exact ⟨v, w, run_app_none w B _ ty _ i0 1 Try.underlying22 hi v _ _ hown c, by simpa using hown, World.grownBy.refl w _, .inl rfl⟩
  | some ad =>
    have hc : ∀ j u, (r.map iv)[j]? = some u → w.cell? (ad.add j) = some u := by
      intro j u hu
      rcases h3 with h3 | ⟨b, off, h, hc⟩
      · subst h3; simp at hu
      · cases h
        have hj : j < r.length := by have := (List.getElem?_eq_some_iff.1 hu).1; simpa using this
        have e : (⟨b, off, none⟩ : Addr).add j = ⟨b, off + j, none⟩ := Go.WideShapes.add_plain ..
        rw [e, hc j hj]
        simp [hj] at hu
        rw [← hu]; simp [iv, hj]
    obtain ⟨v', w', hrun, g1, g2, _, g4⟩ := run_append_own_at (P := Try.prog) w B 22 ty 3 i0 (.int .i64 0) 1 8 Try.underlying22 hi hz0 hz1 hz2 rfl (by decide) v l.length (l.map iv) hown ad r.length c (r.map iv) (by simp) hc (iv_one r) (by unfold maxLen; omega) (by omega) hB
    exact ⟨v', w', hrun, fin _ _ g1, g2, g4⟩

theorem run_app_step (B : Nat) (v : Value) (l : List (Int × Int)) (w : World) (hown : OwnL B w v l) (u : Value) (r : List (Int × Int)) (hr : RL w u r) (hlen : l.length + r.length ≤ 1000000) (hB : B ≤ w.heap.size) (ty : TypeId) :
    ∃ v' w', (Builtin.append_ #[23, 23] ty #[v, u]).run Try.prog w = .ok v' w' ∧ OwnL B w' v' (l ++ r) ∧ w.grownBy w' v.ownBlock ∧ (v'.ownBlock = v.ownBlock ∨ v'.ownBlock = some w.heap.size) := by
  obtain ⟨i0, hi, hz0, hz1, hz2⟩ := info_parts info_instr
  obtain ⟨A, c, rfl, h1, h2, h3⟩ := hr
  have fin : ∀ w' v', w'.ownsRow B 37 2 v' (l.length + r.length) (fl l ++ fl r) → OwnL B w' v' (l ++ r) := fun w' v' h => by
    unfold OwnL; rw [List.length_append, fl_append]; exact h
  cases A with
  | none =>
    have hr0 : r = [] := by
      rcases h3 with h3 | ⟨b, off, h, _⟩
      · exact h3
      · cases h
    subst hr0
    exact ⟨v, w, run_app_none w B _ ty _ i0 2 Try.underlying23 hi v _ _ hown c, by simpa using hown, World.grownBy.refl w _, .inl rfl⟩
  | some ad =>
    have hc : ∀ j u, (fl r)[j]? = some u → w.cell? (ad.add j) = some u := by
      intro j u hu
      obtain ⟨i, hi', hx⟩ := fl_get r j u hu
      rcases h3 with h3 | ⟨b, off, h, hc⟩
      · subst h3; simp at hi'
      · cases h
        have e : (⟨b, off, none⟩ : Addr).add j = ⟨b, off + j, none⟩ := Go.WideShapes.add_plain ..
        rw [e]
        obtain ⟨x, y⟩ := hc i hi'
        rcases hx with ⟨rfl, rfl⟩ | ⟨rfl, rfl⟩
        · exact x
        · exact y
    obtain ⟨v', w', hrun, g1, g2, _, g4⟩ := run_append_own_at (P := Try.prog) w B 23 ty 37 i0 (.agg #[.int .i64 0, .int .i64 0]) 2 16 Try.underlying23 hi hz0 hz1 hz2 rfl (by decide) v l.length (fl l) hown ad r.length c (fl r) (fl_length r) hc (fl_one r) (by unfold maxLen; omega) (by omega) hB
    exact ⟨v', w', hrun, fin _ _ g1, g2, g4⟩

section
variable {ops : Array Oper} {rest : List Oper} {o : Oper} {a : Act} {w : World} {Q : Exit → Act → World → Prop} {K : Act → World → Prop}

theorem wp_app_int (s x : Operand) (ho : o.op = .call { callee := .builtin .append, args := #[s, x], argTypes := #[22, 22] }) (B : Nat) (v : Value) (l : List Int) (hs : a.eval s = v) (hown : OwnI B w v l)
    (u : Value) (r : List Int) (hx : a.eval x = u) (hr : RI w u r) (hlen : l.length + r.length ≤ 1000000) (hB : B ≤ w.heap.size)
    (h : ∀ v' w', OwnI B w' v' (l ++ r) → w.grownBy w' v.ownBlock → (v'.ownBlock = v.ownBlock ∨ v'.ownBlock = some w.heap.size) → K (a.put o.dst v') w') : o.wp Try.prog a w K Q := by
  obtain ⟨v', w', hrun, h2, h3, h4⟩ := run_app_int B v l w hown u r hr hlen hB o.type
  unfold Oper.wp execOp
  simp only [ho, resolve, invoke, builtin, Sem.run_bind, Sem.run_pure, Result.andThen_ok, List.map_toArray, List.map_cons, List.map_nil, hs, hx, hrun]
  exact h v' w' h2 h3 h4
theorem wp_app_step (s x : Operand) (ho : o.op = .call { callee := .builtin .append, args := #[s, x], argTypes := #[23, 23] }) (B : Nat) (v : Value) (l : List (Int × Int)) (hs : a.eval s = v) (hown : OwnL B w v l)
    (u : Value) (r : List (Int × Int)) (hx : a.eval x = u) (hr : RL w u r) (hlen : l.length + r.length ≤ 1000000) (hB : B ≤ w.heap.size)
    (h : ∀ v' w', OwnL B w' v' (l ++ r) → w.grownBy w' v.ownBlock → (v'.ownBlock = v.ownBlock ∨ v'.ownBlock = some w.heap.size) → K (a.put o.dst v') w') : o.wp Try.prog a w K Q := by
  obtain ⟨v', w', hrun, h2, h3, h4⟩ := run_app_step B v l w hown u r hr hlen hB o.type
  unfold Oper.wp execOp
  simp only [ho, resolve, invoke, builtin, Sem.run_bind, Sem.run_pure, Result.andThen_ok, List.map_toArray, List.map_cons, List.map_nil, hs, hx, hrun]
  exact h v' w' h2 h3 h4

theorem list_app_int (hgd : o.guard = none) (s x : Operand) (ho : o.op = .call { callee := .builtin .append, args := #[s, x], argTypes := #[22, 22] }) (B : Nat) (v : Value) (l : List Int) (hs : a.eval s = v) (hown : OwnI B w v l)
    (u : Value) (r : List Int) (hx : a.eval x = u) (hr : RI w u r) (hlen : l.length + r.length ≤ 1000000) (hB : B ≤ w.heap.size)
    (h : ∀ v' w', OwnI B w' v' (l ++ r) → w.grownBy w' v.ownBlock → (v'.ownBlock = v.ownBlock ∨ v'.ownBlock = some w.heap.size) → wpList Try.prog ops Q rest (a.put o.dst v') w') : wpList Try.prog ops Q (o :: rest) a w :=
  wpList_plain hgd fun _ hK => wp_app_int s x ho B v l hs hown u r hx hr hlen hB fun v' w' h2 h3 h4 => hK _ _ (h v' w' h2 h3 h4)
theorem list_app_step (hgd : o.guard = none) (s x : Operand) (ho : o.op = .call { callee := .builtin .append, args := #[s, x], argTypes := #[23, 23] }) (B : Nat) (v : Value) (l : List (Int × Int)) (hs : a.eval s = v) (hown : OwnL B w v l)
    (u : Value) (r : List (Int × Int)) (hx : a.eval x = u) (hr : RL w u r) (hlen : l.length + r.length ≤ 1000000) (hB : B ≤ w.heap.size)
    (h : ∀ v' w', OwnL B w' v' (l ++ r) → w.grownBy w' v.ownBlock → (v'.ownBlock = v.ownBlock ∨ v'.ownBlock = some w.heap.size) → wpList Try.prog ops Q rest (a.put o.dst v') w') : wpList Try.prog ops Q (o :: rest) a w :=
  wpList_plain hgd fun _ hK => wp_app_step s x ho B v l hs hown u r hx hr hlen hB fun v' w' h2 h3 h4 => hK _ _ (h v' w' h2 h3 h4)
theorem step_app_int {E : Prop} (hgd : o.guard = none) (s x : Operand) (ho : o.op = .call { callee := .builtin .append, args := #[s, x], argTypes := #[22, 22] }) (B : Nat) (v : Value) (l : List Int) (hs : a.eval s = v) (hown : OwnI B w v l)
    (u : Value) (r : List Int) (hx : a.eval x = u) (hr : RI w u r) (hlen : l.length + r.length ≤ 1000000) (hB : B ≤ w.heap.size)
    (h : ∀ v' w', OwnI B w' v' (l ++ r) → w.grownBy w' v.ownBlock → (v'.ownBlock = v.ownBlock ∨ v'.ownBlock = some w.heap.size) → K (a.put o.dst v') w') : if Region.wanted o (yielded ops a.tmps) = true then o.wp Try.prog a w K Q else E := by
  rw [if_pos (by simp [Region.wanted, hgd])]
  exact wp_app_int s x ho B v l hs hown u r hx hr hlen hB h
theorem step_app_step {E : Prop} (hgd : o.guard = none) (s x : Operand) (ho : o.op = .call { callee := .builtin .append, args := #[s, x], argTypes := #[23, 23] }) (B : Nat) (v : Value) (l : List (Int × Int)) (hs : a.eval s = v) (hown : OwnL B w v l)
    (u : Value) (r : List (Int × Int)) (hx : a.eval x = u) (hr : RL w u r) (hlen : l.length + r.length ≤ 1000000) (hB : B ≤ w.heap.size)
    (h : ∀ v' w', OwnL B w' v' (l ++ r) → w.grownBy w' v.ownBlock → (v'.ownBlock = v.ownBlock ∨ v'.ownBlock = some w.heap.size) → K (a.put o.dst v') w') : if Region.wanted o (yielded ops a.tmps) = true then o.wp Try.prog a w K Q else E := by
  rw [if_pos (by simp [Region.wanted, hgd])]
  exact wp_app_step s x ho B v l hs hown u r hx hr hlen hB h
end

/-! ### literals -/
theorem own_lit (w : World) (l : List Int) (hl : l.length ≤ maxLen) : OwnI w.heap.size (w.alloc (.cells (l.map iv).toArray 3)) (.slice (some ⟨w.heap.size, 0, none⟩) l.length l.length) l := by
  have h := World.ownsRow_lit (e := 3) (size := 1) (base := w.heap.size) w (l.map iv).toArray l.length (Nat.le_refl _) hl (by simp)
  simpa [OwnI] using h
theorem ownl_lit (w : World) (l : List (Int × Int)) (hl : l.length ≤ maxLen) : OwnL w.heap.size (w.alloc (.cells (fl l).toArray 37)) (.slice (some ⟨w.heap.size, 0, none⟩) l.length l.length) l := by
  have h := World.ownsRow_lit (e := 37) (size := 2) (base := w.heap.size) w (fl l).toArray l.length (Nat.le_refl _) hl (by simp [fl_length])
  simpa [OwnL] using h
theorem ri_one (w : World) (x : Int) : RI (w.alloc (.cells #[.int .i64 x] 3)) (.slice (some ⟨w.heap.size, 0, none⟩) 1 1) [x] := (own_lit w [x] (by unfold maxLen; simp)).ri
end Go.Proofs.Ytlgjfhjnfimahaa
