/-
  Lines of edits, plainly: each once, rising; lists that rise and hold the same are one.
-/
import Derived.Test.YtegbeolnlpgdeaaZma
import Derived.Lib.SlicesCompact
namespace Go.Proofs.Ytegbeolnlpgdeaa
set_option maxRecDepth 100000

/-- the lines of edits as they come -/
def lnR : List Ed → List Int
  | [] => []
  | e :: r => if 0 ≤ e.w then e.w / 8 :: lnR r else lnR r
theorem lnR_app : ∀ p q : List Ed, lnR (p ++ q) = lnR p ++ lnR q
  | [], _ => rfl
  | e :: p, q => by
    rw [List.cons_append, lnR, lnR, lnR_app p q]
    split <;> rfl
theorem lnR_take {es : List Ed} {k : Nat} (h : k < es.length) : lnR (es.take (k + 1)) = lnR (es.take k) ++ if 0 ≤ (es.getD k default).w then [(es.getD k default).w / 8] else [] := by
  rw [List.take_add_one, lnR_app, List.getElem?_eq_getElem h, List.getD_eq_getElem?_getD, List.getElem?_eq_getElem h]
  simp only [Option.toList_some, Option.getD_some, lnR]
theorem lnR_length : ∀ es : List Ed, (lnR es).length ≤ es.length
  | [] => Nat.le_refl _
  | e :: r => by
    have := lnR_length r
    rw [lnR]
    split <;> simp only [List.length_cons] <;> omega
theorem mem_lnR : ∀ {es : List Ed} {x : Int}, x ∈ lnR es ↔ ∃ e ∈ es, 0 ≤ e.w ∧ x = e.w / 8
  | [], x => by simp [lnR]
  | e :: r, x => by
    rw [lnR]
    by_cases h : 0 ≤ e.w
    · rw [if_pos h, List.mem_cons, mem_lnR]
      simp only [List.mem_cons, exists_eq_or_imp, h, true_and]
    · rw [if_neg h, mem_lnR]
      simp only [List.mem_cons, exists_eq_or_imp, h, false_and, false_or]
/-- it rises -/
def Up (l : List Int) : Prop := l.Pairwise (· < ·)
/-- the lines of edits: each once, rising -/
structure IsL (es : List Ed) (l : List Int) : Prop where
  up : Up l
  mem : ∀ x, x ∈ l ↔ x ∈ lnR es
theorem up_one : ∀ {l m : List Int}, Up l → Up m → (∀ x, x ∈ l ↔ x ∈ m) → l = m
  | [], [], _, _, _ => rfl
  | [], b :: m, _, _, h => by have := (h b).2 (List.mem_cons_self ..); cases this
  | a :: l, [], _, _, h => by have := (h a).1 (List.mem_cons_self ..); cases this
  | a :: l, b :: m, hl, hm, h => by
    unfold Up at hl hm
    rw [List.pairwise_cons] at hl hm
    have e : a = b := by
      have h1 := (h a).1 (List.mem_cons_self ..)
      have h2 := (h b).2 (List.mem_cons_self ..)
      rcases List.mem_cons.1 h1 with h1 | h1
      · exact h1
      · rcases List.mem_cons.1 h2 with h2 | h2
        · exact h2.symm
        · have a1 := hm.1 a h1
          have a2 := hl.1 b h2
          omega
    subst e
    congr 1
    refine up_one hl.2 hm.2 fun x => ⟨fun hx => ?_, fun hx => ?_⟩
    · rcases List.mem_cons.1 ((h x).1 (List.mem_cons_of_mem _ hx)) with rfl | q
      · have := hl.1 _ hx; omega
      · exact q
    · rcases List.mem_cons.1 ((h x).2 (List.mem_cons_of_mem _ hx)) with rfl | q
      · have := hm.1 _ hx; omega
      · exact q
theorem IsL.one {es : List Ed} {l m : List Int} (h : IsL es l) (h' : IsL es m) : l = m := up_one h.up h'.up fun x => (h.mem x).trans (h'.mem x).symm
theorem IsL.nil : IsL [] [] := ⟨List.Pairwise.nil, fun _ => Iff.rfl⟩
/-- its places -/
theorem up_at {l : List Int} (h : Up l) {i j : Nat} (hij : i < j) (hj : j < l.length) : l.getD i 0 < l.getD j 0 := by
  have := List.pairwise_iff_getElem.1 h i j (by omega) hj hij
  simpa [List.getD_eq_getElem?_getD, hj, show i < l.length by omega] using this
/-- a line put in -/
theorem IsL.put {es : List Ed} {l : List Int} {k i : Nat} {n : Int} (h : IsL (es.take k) l) (hk : k < es.length) (he : 0 ≤ (es.getD k default).w) (hn : (es.getD k default).w / 8 = n) (hi : i ≤ l.length)
    (hlo : ∀ j, j < i → l.getD j 0 < n) (hhi : i < l.length → n < l.getD i 0) : IsL (es.take (k + 1)) (l.take i ++ n :: l.drop i) := by
  have hmt : ∀ x, x ∈ l.take i → x < n := fun x hx => by
    obtain ⟨j, hj, rfl⟩ := List.getElem_of_mem hx
    have hj' : j < i := by rw [List.length_take] at hj; omega
    have := hlo j hj'
    rw [List.getElem_take]
    simpa [List.getD_eq_getElem?_getD, show j < l.length by omega] using this
  have hmd : ∀ x, x ∈ l.drop i → n < x := fun x hx => by
    obtain ⟨j, hj, rfl⟩ := List.getElem_of_mem hx
    rw [List.length_drop] at hj
    have h0 := hhi (by omega)
    rw [List.getElem_drop]
    have e : l[i + j] = l.getD (i + j) 0 := by simp [List.getD_eq_getElem?_getD, show i + j < l.length by omega]
    rw [e]
    by_cases hj0 : j = 0
    · subst hj0; exact h0
    · have := up_at h.up (i := i) (j := i + j) (by omega) (by omega)
      omega
  have hs : l.take i ++ l.drop i = l := List.take_append_drop ..
  refine ⟨?_, fun x => ?_⟩
  · unfold Up
    rw [List.pairwise_append]
    have hup := h.up
    unfold Up at hup
    rw [← hs, List.pairwise_append] at hup
    refine ⟨hup.1, List.pairwise_cons.2 ⟨hmd, hup.2.1⟩, fun a ha b hb => ?_⟩
    rcases List.mem_cons.1 hb with rfl | hb
    · exact hmt a ha
    · exact hup.2.2 a ha b hb
  · rw [lnR_take hk, if_pos he, hn, List.mem_append, List.mem_append, List.mem_cons, List.mem_singleton, ← h.mem]
    have e : x ∈ l ↔ x ∈ l.take i ∨ x ∈ l.drop i := by rw [← List.mem_append, hs]
    rw [e]
    constructor
    · rintro (h | h | h)
      · exact .inl (.inl h)
      · exact .inr h
      · exact .inl (.inr h)
    · rintro ((h | h) | h)
      · exact .inl h
      · exact .inr (.inr h)
      · exact .inr (.inl h)
theorem IsL.same {es : List Ed} {l : List Int} {k i : Nat} (h : IsL (es.take k) l) (hk : k < es.length) (he : 0 ≤ (es.getD k default).w) (hi : i < l.length) (hn : l.getD i 0 = (es.getD k default).w / 8) : IsL (es.take (k + 1)) l := by
  refine ⟨h.up, fun x => ?_⟩
  rw [lnR_take hk, if_pos he, ← hn, List.mem_append, List.mem_singleton, ← h.mem]
  refine ⟨.inl, ?_⟩
  rintro (h | rfl)
  · exact h
  · rw [List.getD_eq_getElem?_getD, List.getElem?_eq_getElem hi]; exact List.getElem_mem hi
theorem IsL.skip {es : List Ed} {l : List Int} {k : Nat} (h : IsL (es.take k) l) (hk : k < es.length) (he : ¬ 0 ≤ (es.getD k default).w) : IsL (es.take (k + 1)) l := by
  refine ⟨h.up, fun x => ?_⟩
  rw [lnR_take hk, if_neg he, List.append_nil, ← h.mem]
/-- runs of the same taken out of what is sorted -/
theorem compact_up {zs : List Int} (h : zs.Pairwise (· ≤ ·)) : Up (Lib.compact zs) ∧ (∀ x, x ∈ Lib.compact zs ↔ x ∈ zs) ∧ (Lib.compact zs).length ≤ zs.length := by
  have hg : ∀ j, j < zs.length → zs.toArray[j]! = zs.getD j 0 := fun j hj => by
    rw [getElem!_pos zs.toArray j (by simpa using hj)]
    simp [List.getD_eq_getElem?_getD, hj]
  have hle : ∀ i j, i ≤ j → j < zs.length → zs.getD i 0 ≤ zs.getD j 0 := fun i j hij hj => by
    by_cases e : i = j
    · subst e; exact Int.le_refl _
    · have := List.pairwise_iff_getElem.1 h i j (by omega) hj (by omega)
      simpa [List.getD_eq_getElem?_getD, hj, show i < zs.length by omega] using this
  refine ⟨?_, fun x => ?_, ?_⟩
  · unfold Up Lib.compact Lib.compactUpTo
    rw [List.pairwise_map, List.pairwise_filter]
    refine List.Pairwise.imp_of_mem ?_ (List.pairwise_lt_range (n := zs.length))
    intro i j hi hj hij _ hkj
    rw [List.mem_range] at hi hj
    simp only [Lib.keeps, decide_eq_true_eq] at hkj
    rcases hkj with hkj | hkj
    · omega
    · rw [hg j hj, hg (j - 1) (by omega)] at hkj
      rw [hg i hi, hg j hj]
      have a := hle i (j - 1) (by omega) (by omega)
      have b := hle (j - 1) j (by omega) hj
      omega
  · unfold Lib.compact Lib.compactUpTo
    rw [List.mem_map]
    constructor
    · rintro ⟨j, hj, rfl⟩
      have hj' := List.mem_range.1 (List.mem_filter.1 hj).1
      rw [hg j hj', List.getD_eq_getElem?_getD, List.getElem?_eq_getElem hj']
      exact List.getElem_mem hj'
    · intro hx
      obtain ⟨j, hj, rfl⟩ := List.getElem_of_mem hx
      have key : ∀ j, j < zs.length → ∃ a, a ∈ (List.range zs.length).filter (Lib.keeps zs.toArray) ∧ zs.toArray[a]! = zs.getD j 0 := by
        intro j
        induction j with
        | zero =>
          intro h0
          exact ⟨0, List.mem_filter.2 ⟨List.mem_range.2 h0, by simp [Lib.keeps]⟩, hg 0 h0⟩
        | succ j ih =>
          intro h0
          by_cases e : zs.getD (j + 1) 0 = zs.getD j 0
          · obtain ⟨a, a1, a2⟩ := ih (by omega)
            exact ⟨a, a1, a2.trans e.symm⟩
          · refine ⟨j + 1, List.mem_filter.2 ⟨List.mem_range.2 h0, ?_⟩, hg _ h0⟩
            simp only [Lib.keeps, decide_eq_true_eq]
            right
            rw [hg _ h0, Nat.add_sub_cancel, hg j (by omega)]
            exact e
      obtain ⟨a, a1, a2⟩ := key j hj
      refine ⟨a, a1, a2.trans ?_⟩
      simp [List.getD_eq_getElem?_getD, hj]
  · unfold Lib.compact Lib.compactUpTo
    rw [List.length_map]
    have := List.length_filter_le (Lib.keeps zs.toArray) (List.range zs.length)
    rw [List.length_range] at this
    exact this
theorem sorted_up (zs : List Int) : (zs.mergeSort fun x y => decide (x ≤ y)).Pairwise (· ≤ ·) := by
  have := List.pairwise_mergeSort (le := fun x y : Int => decide (x ≤ y)) (fun a b c h1 h2 => by simp at *; omega) (fun a b => by simp; omega) zs
  exact this.imp fun h => by simpa using h
theorem lines_are (es : List Ed) : IsL es (Lib.compact ((lnR es).mergeSort fun x y => decide (x ≤ y))) ∧ (Lib.compact ((lnR es).mergeSort fun x y => decide (x ≤ y))).length ≤ es.length := by
  obtain ⟨a, b, c⟩ := compact_up (sorted_up (lnR es))
  rw [List.length_mergeSort] at c
  refine ⟨⟨a, fun x => (b x).trans ?_⟩, Nat.le_trans c (lnR_length es)⟩
  exact List.mem_mergeSort
end Go.Proofs.Ytegbeolnlpgdeaa
