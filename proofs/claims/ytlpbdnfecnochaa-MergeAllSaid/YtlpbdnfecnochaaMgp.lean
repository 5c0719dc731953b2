/-
  A block given back, plainly: which can be, what becomes one free block, the blocks behind it, the word that is written.
-/
import Derived.Test.YtlpbdnfecnochaaCrx
namespace Go.Proofs.Ytlpbdnfecnochaa
set_option maxRecDepth 100000

/-- the block at a place can be given back -/
def canM (l : List Bk) (i : Int) : Bool := mayS l && decide (0 ≤ i ∧ i < l.length ∧ (bAt l i).u = true)
/-- from which place, up to which one, all becomes one -/
def frm (l : List Bk) (k : Nat) : Nat := if 0 < k ∧ (l.getD (k - 1) default).u = false then k - 1 else k
def too (l : List Bk) (k : Nat) : Nat := if k + 1 < l.length ∧ (l.getD (k + 1) default).u = false then k + 2 else k + 1
def midB (l : List Bk) (k : Nat) : List Bk := (l.take (too l k)).drop (frm l k)
def oneB (l : List Bk) (k : Nat) : Bk := ⟨(l.getD (frm l k) default).a, szs (midB l k), false⟩
def mrgF (l : List Bk) (i : Int) : List Bk := if canM l i = true then l.take (frm l i.toNat) ++ (oneB l i.toNat :: l.drop (too l i.toNat)) else []
def medF (l : List Bk) (i : Int) : Ed := if canM l i = true then ⟨(oneB l i.toNat).a, hdB (oneB l i.toNat).s false⟩ else ⟨0, 0⟩

theorem canM_yes {l : List Bk} {i : Int} : canM l i = true ↔ mayS l = true ∧ 0 ≤ i ∧ i < l.length ∧ (bAt l i).u = true := by simp [canM]
theorem canM_no {l : List Bk} {i : Int} (h : canM l i = false) : mayS l = false ∨ i < 0 ∨ (l.length : Int) ≤ i ∨ (0 ≤ i ∧ i < l.length ∧ (bAt l i).u = false) := by
  by_cases h1 : mayS l = true
  · by_cases h2 : i < 0
    · exact .inr (.inl h2)
    · by_cases h3 : (l.length : Int) ≤ i
      · exact .inr (.inr (.inl h3))
      · refine .inr (.inr (.inr ⟨by omega, by omega, ?_⟩))
        cases h4 : (bAt l i).u
        · rfl
        · rw [canM_yes.2 ⟨h1, by omega, by omega, h4⟩] at h
          cases h
  · exact .inl (by simpa using h1)
theorem mrgF_no {l : List Bk} {i : Int} (h : canM l i = false) : mrgF l i = [] := by rw [mrgF, h]; rfl
theorem medF_no {l : List Bk} {i : Int} (h : canM l i = false) : medF l i = ⟨0, 0⟩ := by rw [medF, h]; rfl
theorem frm_or (l : List Bk) (k : Nat) : (frm l k = k ∧ (k = 0 ∨ (l.getD (k - 1) default).u = true)) ∨ (0 < k ∧ frm l k = k - 1 ∧ (l.getD (k - 1) default).u = false) := by
  by_cases c : 0 < k ∧ (l.getD (k - 1) default).u = false
  · exact .inr ⟨c.1, by rw [frm, if_pos c], c.2⟩
  · refine .inl ⟨by rw [frm, if_neg c], ?_⟩
    by_cases d : k = 0
    · exact .inl d
    · refine .inr ?_
      cases e : (l.getD (k - 1) default).u
      · exact absurd ⟨by omega, e⟩ c
      · rfl
theorem too_or (l : List Bk) (k : Nat) : (too l k = k + 1 ∧ (l.length ≤ k + 1 ∨ (l.getD (k + 1) default).u = true)) ∨ (k + 1 < l.length ∧ too l k = k + 2 ∧ (l.getD (k + 1) default).u = false) := by
  by_cases c : k + 1 < l.length ∧ (l.getD (k + 1) default).u = false
  · exact .inr ⟨c.1, by rw [too, if_pos c], c.2⟩
  · refine .inl ⟨by rw [too, if_neg c], ?_⟩
    by_cases d : l.length ≤ k + 1
    · exact .inl d
    · refine .inr ?_
      cases e : (l.getD (k + 1) default).u
      · exact absurd ⟨by omega, e⟩ c
      · rfl
theorem frm_too {l : List Bk} {k : Nat} (h : k < l.length) : frm l k ≤ k ∧ k < too l k ∧ too l k ≤ l.length ∧ k ≤ frm l k + 1 ∧ too l k ≤ k + 2 := by
  rcases frm_or l k with ⟨e, _⟩ | ⟨_, e, _⟩ <;> rcases too_or l k with ⟨e', _⟩ | ⟨_, e', _⟩ <;> omega

/-- whether the last one is free -/
def lastF (f : Bool) : List Bk → Bool
  | [] => f
  | b :: r => lastF (!b.u) r
theorem lastF_take : ∀ (l : List Bk) (f : Bool) (j : Nat), j < l.length → lastF f (l.take (j + 1)) = !(l.getD j default).u
  | b :: r, f, 0, _ => by rw [List.take_succ_cons, List.take_zero]; rfl
  | b :: r, f, j + 1, h => by rw [List.take_succ_cons, lastF, lastF_take r _ j (by simpa using h), List.getD_cons_succ]
theorem mayF_flag {n : Int} : ∀ {p q : List Bk} {a : Int} {f : Bool}, mayF n a f (p ++ q) = true → mayF n (a + szs p) (lastF f p) q = true
  | [], q, a, f, h => by simpa [szs, lastF] using h
  | b :: p, q, a, f, h => by
    obtain ⟨_, _, _, h⟩ := mayF_cons.1 h
    rw [szs, lastF, ← Int.add_assoc]
    exact mayF_flag h
theorem mayF_swap {n : Int} {q' : List Bk} : ∀ {p q : List Bk} {a : Int} {f : Bool}, mayF n a f (p ++ q) = true → mayF n (a + szs p) (lastF f p) q' = true → mayF n a f (p ++ q') = true
  | [], q, a, f, _, h => by simpa [szs, lastF] using h
  | b :: p, q, a, f, h, h' => by
    obtain ⟨h1, h2, h3, h⟩ := mayF_cons.1 h
    rw [szs, lastF, ← Int.add_assoc] at h'
    exact mayF_cons.2 ⟨h1, h2, h3, mayF_swap h h'⟩

theorem mid_split {l : List Bk} {k : Nat} (h : k < l.length) : l = l.take (frm l k) ++ (midB l k ++ l.drop (too l k)) := by
  obtain ⟨h1, h2, h3, _⟩ := frm_too h
  have e : l.take (frm l k) = (l.take (too l k)).take (frm l k) := by rw [List.take_take, Nat.min_eq_left (by omega)]
  rw [midB, e, ← List.append_assoc, List.take_append_drop, List.take_append_drop]
/-- what becomes one: the used one, with a free one ahead or not, with a free one behind or not -/
theorem mid_is {l : List Bk} {k : Nat} (h : k < l.length) : midB l k = (if frm l k = k then [] else [l.getD (k - 1) default]) ++ (l.getD k default :: (if too l k = k + 1 then [] else [l.getD (k + 1) default])) := by
  have t1 : ∀ j, j < too l k → j < l.length := fun j hj => by have := frm_too h; omega
  rw [midB, List.drop_take]
  rcases frm_or l k with ⟨e, _⟩ | ⟨e0, e, _⟩ <;> rcases too_or l k with ⟨e', _⟩ | ⟨e0', e', _⟩ <;> rw [e, e']
  · rw [if_pos rfl, if_pos rfl, show k + 1 - k = 1 by omega, getD_cut h]
    rfl
  · rw [if_pos rfl, if_neg (by omega), show k + 2 - k = 2 by omega, getD_cut h, getD_cut e0']
    rfl
  · rw [if_neg (by omega), if_pos rfl, show k + 1 - (k - 1) = 2 by omega, getD_cut (l := l) (k := k - 1) (by omega), show k - 1 + 1 = k by omega, getD_cut h]
    rfl
  · rw [if_neg (by omega), if_neg (by omega), show k + 2 - (k - 1) = 3 by omega, getD_cut (l := l) (k := k - 1) (by omega), show k - 1 + 1 = k by omega, getD_cut h, getD_cut e0']
    rfl
theorem mid_cons {l : List Bk} {k : Nat} (h : k < l.length) : ∃ r, midB l k = l.getD (frm l k) default :: r := by
  rw [mid_is h]
  rcases frm_or l k with ⟨e, _⟩ | ⟨e0, e, _⟩
  · rw [if_pos e, e]; exact ⟨_, rfl⟩
  · rw [if_neg (by omega), e]; exact ⟨_, rfl⟩
theorem mid_in {l : List Bk} {k : Nat} (h : k < l.length) : ∀ b ∈ midB l k, b ∈ l := fun b hb => by
  rw [mid_split h]
  exact List.mem_append.2 (.inr (List.mem_append.2 (.inl hb)))

/-- what holds of the one that they become -/
theorem one_ok {n : Int} {l : List Bk} {k : Nat} (h : mayF n 0 false l = true) (hn : n ≤ 512) (hk : k < l.length) (hu : (l.getD k default).u = true) :
    mayF n (szs (l.take (frm l k))) (lastF false (l.take (frm l k))) (oneB l k :: l.drop (too l k)) = true ∧ (oneB l k).a = szs (l.take (frm l k)) := by
  have hs := h
  rw [mid_split hk] at hs
  have h1 := mayF_flag hs
  rw [Int.zero_add] at h1
  obtain ⟨r, hr⟩ := mid_cons hk
  have h3 := mayF_app h1
  rw [hr, List.cons_append] at h1
  obtain ⟨a1, a2, a3, a4⟩ := mayF_cons.1 h1
  obtain ⟨g, h3, h4⟩ := h3
  have he := mayF_end h3
  have h5 := (mayF_app a4)
  obtain ⟨_, h5, h6⟩ := h5
  have hz : szs (midB l k) = (l.getD (frm l k) default).s + szs r := by rw [hr, szs]
  have hp : 0 ≤ szs (l.take (frm l k)) := (mayF_app hs).elim fun _ x => x.2
  have ho : (oneB l k).a = szs (l.take (frm l k)) := a1
  refine ⟨mayF_cons.2 ⟨ho, ?_, ?_, ?_⟩, ho⟩
  · obtain ⟨b1, b2⟩ := a2
    show MayB (szs (midB l k))
    exact ⟨by omega, by omega⟩
  · rintro ⟨c1, _⟩
    rcases frm_or l k with ⟨e, c⟩ | ⟨e0, e, c⟩
    · rw [e] at c1
      rcases c with c | c
      · subst c
        cases c1
      · obtain ⟨j, rfl⟩ : ∃ j, k = j + 1 := by
          cases k with
          | zero => cases c1
          | succ j => exact ⟨j, rfl⟩
        rw [lastF_take l _ j (by omega)] at c1
        rw [Nat.add_sub_cancel] at c
        rw [c] at c1
        cases c1
    · rw [e] at a3 c1
      exact a3 ⟨c1, c⟩
  · show mayF n (szs (l.take (frm l k)) + szs (midB l k)) true (l.drop (too l k)) = true
    have hs2 := h
    rw [← List.take_append_drop (too l k) l] at hs2
    have h7 := mayF_flag hs2
    have e2 : szs (l.take (too l k)) = szs (l.take (frm l k)) + szs (midB l k) := by
      have := frm_too hk
      have e : l.take (frm l k) = (l.take (too l k)).take (frm l k) := by rw [List.take_take, Nat.min_eq_left (by omega)]
      rw [midB, e, ← szs_app, List.take_append_drop]
    rw [Int.zero_add, e2] at h7
    rcases too_or l k with ⟨e, c⟩ | ⟨e0, e, c⟩
    · rcases c with c | c
      · rw [e, List.drop_eq_nil_of_le (by omega)] at h7 ⊢
        exact mayF_nil.2 (mayF_nil.1 h7)
      · by_cases d : l.length ≤ k + 1
        · rw [e, List.drop_eq_nil_of_le d] at h7 ⊢
          exact mayF_nil.2 (mayF_nil.1 h7)
        · rw [e] at h7 ⊢
          rw [getD_cut (by omega)] at h7 ⊢
          obtain ⟨d1, d2, d3, d4⟩ := mayF_cons.1 h7
          exact mayF_cons.2 ⟨d1, d2, (fun q => by rw [c] at q; cases q.2), d4⟩
    · rw [e] at h7 ⊢
      rw [lastF_take l _ (k + 1) e0, c] at h7
      exact h7
theorem mrgF_yes {l : List Bk} {k : Nat} (h : canM l k = true) : mrgF l k = l.take (frm l k) ++ (oneB l k :: l.drop (too l k)) := by rw [mrgF, if_pos h, Int.toNat_natCast]
theorem medF_yes {l : List Bk} {k : Nat} (h : canM l k = true) : medF l k = ⟨(oneB l k).a, hdB (oneB l k).s false⟩ := by rw [medF, if_pos h, Int.toNat_natCast]
theorem canM_nat {l : List Bk} {k : Nat} (h : canM l k = true) : mayS l = true ∧ k < l.length ∧ (l.getD k default).u = true := by
  obtain ⟨h1, _, h3, h4⟩ := canM_yes.1 h
  rw [bAt_nat] at h4
  exact ⟨h1, by omega, h4⟩
theorem canM_at {n : Int} {l : List Bk} (h : mayL n l = true) {k : Nat} (hk : k < l.length) : canM l k = (l.getD k default).u := by
  have hm := mayL_mayS h
  unfold canM
  rw [hm, Bool.true_and, bAt_nat]
  cases hu : (l.getD k default).u
  · exact decide_eq_false fun q => by cases q.2.2
  · exact decide_eq_true ⟨by omega, by omega, rfl⟩
theorem mayL_mrg {n : Int} {l : List Bk} {k : Nat} (h : mayL n l = true) (hc : canM l k = true) : mayL n (mrgF l k) = true := by
  obtain ⟨_, hk, hu⟩ := canM_nat hc
  obtain ⟨hm, hf⟩ := mayL_yes.1 h
  obtain ⟨h1, _⟩ := one_ok hf hm.2.1 hk hu
  have hs := hf
  rw [mid_split hk] at hs
  rw [mrgF_yes hc]
  exact mayL_yes.2 ⟨hm, mayF_swap hs (by rw [Int.zero_add]; exact h1)⟩
/-- what the one is, where they may be -/
theorem one_in {n : Int} {l : List Bk} {k : Nat} (h : mayL n l = true) (hc : canM l k = true) : MayB (oneB l k).s ∧ 0 ≤ (oneB l k).a ∧ (oneB l k).a + (oneB l k).s ≤ n :=
  mayF_sizes (mayL_yes.1 (mayL_mrg h hc)).2 _ (by rw [mrgF_yes hc]; simp)
theorem mrg_at {l : List Bk} {k : Nat} (hc : canM l k = true) : (mrgF l k).getD (frm l k) default = oneB l k := by
  obtain ⟨_, hk, _⟩ := canM_nat hc
  have := frm_too hk
  rw [mrgF_yes hc, List.getD_eq_getElem?_getD, List.getElem?_append_right (by rw [List.length_take]; omega), List.length_take, Nat.min_eq_left (by omega), Nat.sub_self]
  rfl
theorem mrg_length {l : List Bk} {k : Nat} (hc : canM l k = true) : frm l k < (mrgF l k).length ∧ (mrgF l k).length ≤ l.length ∧ (mrgF l k).length + too l k = l.length + 1 + frm l k := by
  obtain ⟨_, hk, _⟩ := canM_nat hc
  have := frm_too hk
  rw [mrgF_yes hc, List.length_append, List.length_cons, List.length_take, List.length_drop]
  omega
/-- how many are used -/
def cntU : List Bk → Nat
  | [] => 0
  | b :: r => (if b.u = true then 1 else 0) + cntU r
theorem cntU_app : ∀ p r : List Bk, cntU (p ++ r) = cntU p + cntU r
  | [], r => by simp [cntU]
  | b :: p, r => by rw [List.cons_append, cntU, cntU, cntU_app p r, Nat.add_assoc]
theorem cntU_le : ∀ l : List Bk, cntU l ≤ l.length
  | [] => Nat.le_refl _
  | b :: r => by
    have := cntU_le r
    rw [cntU, List.length_cons]
    split <;> omega
theorem mid_counts {l : List Bk} {k : Nat} (hk : k < l.length) (hu : (l.getD k default).u = true) : cntU (midB l k) = 1 ∧ frS (midB l k) + (l.getD k default).s = szs (midB l k) := by
  rw [mid_is hk]
  have hp := frm_or l k
  have hq := too_or l k
  obtain ⟨⟨a, s, u⟩, hb⟩ : ∃ b, l.getD k default = b := ⟨_, rfl⟩
  obtain ⟨⟨a1, s1, u1⟩, hb1⟩ : ∃ b, l.getD (k - 1) default = b := ⟨_, rfl⟩
  obtain ⟨⟨a2, s2, u2⟩, hb2⟩ : ∃ b, l.getD (k + 1) default = b := ⟨_, rfl⟩
  rw [hb] at hu ⊢
  rw [hb1] at hp ⊢
  rw [hb2] at hq ⊢
  simp only at hu hp hq ⊢
  subst hu
  rcases hp with ⟨e, _⟩ | ⟨_, e, rfl⟩ <;> rcases hq with ⟨e', _⟩ | ⟨_, e', rfl⟩
  · rw [if_pos e, if_pos e']
    refine ⟨rfl, ?_⟩
    simp [frS, szs]
  · rw [if_pos e, if_neg (by omega)]
    refine ⟨rfl, ?_⟩
    simp [frS, szs]
    omega
  · rw [if_neg (by omega), if_pos e']
    refine ⟨rfl, ?_⟩
    simp [frS, szs]
  · rw [if_neg (by omega), if_neg (by omega)]
    refine ⟨rfl, ?_⟩
    simp [frS, szs]
    omega
theorem mrg_counts {l : List Bk} {k : Nat} (hc : canM l k = true) : cntU (mrgF l k) + 1 = cntU l ∧ frS (mrgF l k) = frS l + (l.getD k default).s := by
  obtain ⟨_, hk, hu⟩ := canM_nat hc
  obtain ⟨h1, h2⟩ := mid_counts hk hu
  have e1 : cntU l = _ := congrArg cntU (mid_split hk)
  have e2 : frS l = _ := congrArg frS (mid_split hk)
  rw [cntU_app, cntU_app] at e1
  rw [frS_app, frS_app] at e2
  rw [mrgF_yes hc, cntU_app, frS_app, cntU, frS, if_neg (by simp [oneB]), if_neg (by simp [oneB])]
  have e3 : (oneB l k).s = szs (midB l k) := rfl
  omega
/-- where none is used, all is one free block -/
theorem none_used {n : Int} {l : List Bk} (h : mayL n l = true) (h0 : cntU l = 0) : l = [⟨0, n, false⟩] := by
  obtain ⟨hm, hf⟩ := mayL_yes.1 h
  match l, hf, h0 with
  | [], hf, _ =>
    rw [mayF_nil] at hf
    obtain ⟨h1, _⟩ := hm
    omega
  | [b], hf, h0 =>
    obtain ⟨h1, _, _, h4⟩ := mayF_cons.1 hf
    rw [mayF_nil] at h4
    obtain ⟨a, s, u⟩ := b
    simp only at h1 h4
    cases u
    · rw [h1]
      congr 2
      omega
    · simp [cntU] at h0
  | b :: c :: r, hf, h0 =>
    obtain ⟨_, _, _, h4⟩ := mayF_cons.1 hf
    obtain ⟨_, _, h5, _⟩ := mayF_cons.1 h4
    rw [cntU, cntU] at h0
    exfalso
    cases hb : b.u
    · cases hcu : c.u
      · exact h5 ⟨by rw [hb]; rfl, hcu⟩
      · rw [hcu] at h0
        simp at h0
    · rw [hb] at h0
      simp at h0

/-- one that is taken and given back leaves the blocks as they were -/
theorem mrg_crv {n : Int} {l : List Bk} {k : Nat} {N : Int} (h : mayL n l = true) (hc : canC l k N = true) : canM (crvF l k N) k = true ∧ mrgF (crvF l k N) k = l := by
  have hC := mayL_crv h hc
  obtain ⟨_, _, h1, hu, ht⟩ := canC_yes.1 hc
  have hk : k < l.length := by omega
  have hlen := crv_length hc
  have hat := crv_at hc
  simp only [bAt_nat] at hat hu
  have hkm : k < (crvF l k N).length := by omega
  have hcm : canM (crvF l k N) k = true := by rw [canM_at hC hkm, hat]
  refine ⟨hcm, ?_⟩
  rw [mrgF_yes hcm]
  have hcf : crvF l k N = l.take k ++ (prtB (l.getD k default) N ++ l.drop (k + 1)) := by rw [crvF, if_pos hc, Int.toNat_natCast, bAt_nat]
  rw [bAt_nat] at ht
  have hsp := getD_split hk
  obtain ⟨hm, hf⟩ := mayL_yes.1 h
  rw [hsp] at hf
  have g1 := mayF_flag hf
  obtain ⟨g2, g3, g4, g5⟩ := mayF_cons.1 g1
  rw [hu] at g4 g5
  have tl : (l.take k).length = k := by rw [List.length_take]; omega
  obtain ⟨t1, t2, t3, t4⟩ := takN_some ht
  -- the one ahead is used
  have hF : frm (crvF l k N) k = k := by
    rcases frm_or (crvF l k N) k with ⟨e, _⟩ | ⟨e0, e, c⟩
    · exact e
    · exfalso
      obtain ⟨j, rfl⟩ : ∃ j, k = j + 1 := ⟨k - 1, by omega⟩
      rw [hcf, Nat.add_sub_cancel, List.getD_eq_getElem?_getD, List.getElem?_append_left (by rw [tl]; omega), List.getElem?_take_of_lt (by omega), ← List.getD_eq_getElem?_getD] at c
      rw [lastF_take l _ j (by omega), c] at g4
      exact g4 ⟨rfl, rfl⟩
  have gA : ∀ (P : List Bk) (j : Nat), (l.take k ++ P).getD (k + j) default = P.getD j default := fun P j => by
    rw [List.getD_eq_getElem?_getD, List.getElem?_append_right (by omega), tl, Nat.add_sub_cancel_left, ← List.getD_eq_getElem?_getD]
  have gD : ∀ (P : List Bk) (j : Nat), (l.take k ++ P).drop (k + j) = P.drop j := fun P j => by
    rw [List.drop_append, tl, List.drop_eq_nil_of_le (by rw [tl]; omega), Nat.add_sub_cancel_left]; rfl
  have hrest : ∀ r, l.drop (k + 1) = r → mayF n (0 + szs (l.take k) + (l.getD k default).s) true r = true := fun r e => by rw [← e]; exact g5
  obtain ⟨⟨a, s, u⟩, hb⟩ : ∃ b, l.getD k default = b := ⟨_, rfl⟩
  rw [hb] at hat hu t3 t4 ht hcf hrest hsp t2
  simp only at hu t3 t4 hrest t2
  subst hu
  have hcr : prtB ⟨a, s, false⟩ N = if takN s N = s then [⟨a, s, true⟩] else [⟨a, takN s N, true⟩, ⟨a + takN s N, s - takN s N, false⟩] := rfl
  have hone : ∀ r, midB (crvF l k N) k = ⟨a, takN s N, true⟩ :: r → takN s N + szs r = s → oneB (crvF l k N) k = ⟨a, s, false⟩ := fun r e1 e2 => by
    rw [oneB, hF, hat, e1, szs]
    simp only
    rw [e2]
  have hmid := mid_is hkm
  rw [if_pos hF, List.nil_append, hat] at hmid
  by_cases e : takN s N = s
  · have hcr : prtB ⟨a, s, false⟩ N = [⟨a, s, true⟩] := by rw [hcr, if_pos e]
    rw [hcr, List.singleton_append] at hcf
    have hT : too (crvF l k N) k = k + 1 := by
      rcases too_or (crvF l k N) k with ⟨e, _⟩ | ⟨e0, e, c⟩
      · exact e
      · exfalso
        rw [hcf, gA] at c
        rw [hcf, List.length_append, tl, List.length_cons] at e0
        cases hd : l.drop (k + 1) with
        | nil => rw [hd] at e0; simp at e0
        | cons d r =>
          rw [hd] at c
          obtain ⟨_, _, q, _⟩ := mayF_cons.1 (hrest _ hd)
          exact q ⟨rfl, c⟩
    rw [hT, if_pos rfl] at hmid
    rw [hF, hT, hone [] hmid (by simp only [szs]; omega), hcf, gD]
    have e3 : (l.take k ++ (⟨a, s, true⟩ :: l.drop (k + 1))).take k = l.take k := by
      have := List.take_left (l₁ := l.take k) (l₂ := (⟨a, s, true⟩ :: l.drop (k + 1)))
      rwa [tl] at this
    rw [e3]
    exact hsp.symm
  · have hcr : prtB ⟨a, s, false⟩ N = [⟨a, takN s N, true⟩, ⟨a + takN s N, s - takN s N, false⟩] := by rw [hcr, if_neg e]
    rw [hcr] at hcf
    have hx : (crvF l k N).getD (k + 1) default = ⟨a + takN s N, s - takN s N, false⟩ := by rw [hcf, gA]; rfl
    have hT : too (crvF l k N) k = k + 2 := by
      rcases too_or (crvF l k N) k with ⟨e, c⟩ | ⟨e0, e, c⟩
      · exfalso
        rw [hx] at c
        rcases c with c | c
        · rw [hcf, List.length_append, tl] at c
          simp at c
        · cases c
      · exact e
    rw [hT, if_neg (by omega), hx] at hmid
    rw [hF, hT, hone _ hmid (by simp only [szs]; omega), hcf, gD]
    have e3 : (l.take k ++ ([(⟨a, takN s N, true⟩ : Bk), ⟨a + takN s N, s - takN s N, false⟩] ++ l.drop (k + 1))).take k = l.take k := by
      have := List.take_left (l₁ := l.take k) (l₂ := ([(⟨a, takN s N, true⟩ : Bk), ⟨a + takN s N, s - takN s N, false⟩] ++ l.drop (k + 1)))
      rwa [tl] at this
    rw [e3]
    exact hsp.symm
end Go.Proofs.Ytlpbdnfecnochaa
