/-
  A block taken, plainly: which can be, what stands for it, which words are written; what is written into words.
-/
import Derived.Test.YtdnijdbhdlengaaFtp
namespace Go.Proofs.Ytdnijdbhdlengaa
set_option maxRecDepth 100000

/-- a word that is to be written -/
structure Ed where
  w : Int
  v : Int
instance : Inhabited Ed := ⟨⟨0, 0⟩⟩
/-- values from a word on -/
def rise : Int → List Int → List Ed
  | _, [] => []
  | a, v :: r => ⟨a, v⟩ :: rise (a + 1) r
theorem rise_length : ∀ (vs : List Int) (a : Int), (rise a vs).length = vs.length
  | [], _ => rfl
  | _ :: r, a => by rw [rise, List.length_cons, rise_length r, List.length_cons]
theorem rise_app : ∀ (p q : List Int) (a : Int), rise a (p ++ q) = rise a p ++ rise (a + p.length) q
  | [], q, a => by simp [rise]
  | v :: p, q, a => by
    rw [List.cons_append, rise, rise_app p q, rise, List.cons_append, List.length_cons]
    congr 3
    push_cast
    omega
theorem rise_at : ∀ (vs : List Int) (a : Int) (k : Nat), k < vs.length → (rise a vs).getD k default = ⟨a + k, vs.getD k 0⟩
  | v :: r, a, 0, _ => by simp [rise]
  | v :: r, a, k + 1, h => by
    rw [rise, List.getD_cons_succ, rise_at r (a + 1) k (by simpa using h), List.getD_cons_succ]
    congr 1
    push_cast
    omega
/-- words written into words; those beyond are left out -/
def appF : List Int → List Ed → List Int
  | w, [] => w
  | w, e :: r => appF (if 0 ≤ e.w ∧ e.w < w.length then w.set e.w.toNat e.v else w) r
theorem appF_length : ∀ (l : List Ed) (w : List Int), (appF w l).length = w.length
  | [], _ => rfl
  | e :: r, w => by
    rw [appF, appF_length r]
    split
    · rw [List.length_set]
    · rfl
theorem appF_app : ∀ (p q : List Ed) (w : List Int), appF w (p ++ q) = appF (appF w p) q
  | [], _, _ => rfl
  | e :: p, q, w => by rw [List.cons_append, appF, appF_app p q, appF]
theorem appF_rise : ∀ (vs : List Int) (w : List Int) (a j : Nat), a + vs.length ≤ w.length → (appF w (rise a vs)).getD j 0 = if a ≤ j ∧ j < a + vs.length then vs.getD (j - a) 0 else w.getD j 0
  | [], w, a, j, _ => by
    rw [rise, appF, if_neg]
    simp only [List.length_nil]
    omega
  | v :: r, w, a, j, h => by
    rw [List.length_cons] at h
    have e : (a : Int) + 1 = ((a + 1 : Nat) : Int) := rfl
    rw [rise, appF, if_pos (by simp only; omega), e, appF_rise r _ (a + 1) j (by rw [List.length_set]; omega), List.length_cons]
    simp only [Int.toNat_natCast]
    by_cases h1 : j = a
    · subst h1
      rw [if_neg (by omega), if_pos (by omega), Nat.sub_self]
      simp only [List.getD_eq_getElem?_getD]
      rw [List.getElem?_set_self (by omega)]
      rfl
    · by_cases h2 : a + 1 ≤ j ∧ j < a + 1 + r.length
      · rw [if_pos h2, if_pos (by omega)]
        have e2 : j - a = (j - (a + 1)) + 1 := by omega
        rw [e2, List.getD_cons_succ]
      · rw [if_neg h2, if_neg (by omega)]
        simp only [List.getD_eq_getElem?_getD]
        rw [List.getElem?_set_ne (by omega)]

/-- blocks that may be, of the sum of their sizes -/
def mayS (l : List Bk) : Bool := mayL (szs l) l
theorem mayL_szs {n : Int} {l : List Bk} (h : mayL n l = true) : n = szs l := by
  have := (mayF_end (mayL_yes.1 h).2).1
  omega
theorem mayL_mayS {n : Int} {l : List Bk} (h : mayL n l = true) : mayS l = true := by
  have e := mayL_szs h
  subst e; exact h
/-- any sum that is the right one where they may be -/
theorem mayL_sum {n : Int} {l : List Bk} (h : mayS l = true → n = szs l) : mayL n l = mayS l := by
  cases e : mayS l
  · cases e2 : mayL n l
    · rfl
    · rw [mayL_mayS e2] at e; cases e
  · rw [h e]; exact e
/-- the block at a place; it can be taken -/
def bAt (l : List Bk) (i : Int) : Bk := l.getD i.toNat default
def canC (l : List Bk) (i n : Int) : Bool := mayS l && decide (0 ≤ i ∧ i < l.length ∧ (bAt l i).u = false ∧ takN (bAt l i).s n ≠ 0)
/-- what stands for it -/
def prtB (b : Bk) (n : Int) : List Bk := if takN b.s n = b.s then [⟨b.a, b.s, true⟩] else [⟨b.a, takN b.s n, true⟩, ⟨b.a + takN b.s n, b.s - takN b.s n, false⟩]
def crvF (l : List Bk) (i n : Int) : List Bk := if canC l i n = true then l.take i.toNat ++ (prtB (bAt l i) n ++ l.drop (i.toNat + 1)) else []
/-- the words that are written of a block: its header; noughts behind it, if it is used -/
def edV (b : Bk) : List Int := hdB b.s b.u :: (if b.u = true then List.replicate (b.s - 1).toNat 0 else [])
def edB (b : Bk) : List Ed := rise b.a (edV b)
def edF (p : List Bk) : List Ed := p.flatMap edB
def cedF (l : List Bk) (i n : Int) : List Ed := if canC l i n = true then edF (prtB (bAt l i) n) else []
/-- at which byte a block's bytes begin -/
def offB (a : Int) : Int := if 0 ≤ a ∧ a ≤ 512 then (a + 1) * 8 else 0

theorem takN_some {s n : Int} (h : takN s n ≠ 0) : 2 ≤ n ∧ n ≤ takN s n ∧ takN s n ≤ s ∧ (takN s n = s ∨ takN s n = n ∧ 2 ≤ s - n) := by
  have h1 : 2 ≤ n ∧ n ≤ s := by
    by_cases c : 2 ≤ n ∧ n ≤ s
    · exact c
    · exact absurd (takN_zero.2 c) h
  unfold takN
  rw [if_pos h1]
  split <;> omega
theorem canC_yes {l : List Bk} {i n : Int} : canC l i n = true ↔ mayS l = true ∧ 0 ≤ i ∧ i < l.length ∧ (bAt l i).u = false ∧ takN (bAt l i).s n ≠ 0 := by
  simp [canC]
theorem bAt_split {l : List Bk} {i : Int} (h0 : 0 ≤ i) (h1 : i < l.length) : l = l.take i.toNat ++ bAt l i :: l.drop (i.toNat + 1) := getD_split (by omega)
theorem bAt_mem {l : List Bk} {i : Int} (h0 : 0 ≤ i) (h1 : i < l.length) : bAt l i ∈ l := by
  have : i.toNat < l.length := by omega
  rw [bAt, List.getD_eq_getElem?_getD, List.getElem?_eq_getElem this]; exact List.getElem_mem _
theorem mayF_less {n a : Int} {l : List Bk} (h : mayF n a true l = true) : mayF n a false l = true := by
  cases l with
  | nil => exact h
  | cons b r =>
    obtain ⟨h1, h2, _, h4⟩ := mayF_cons.1 h
    exact mayF_cons.2 ⟨h1, h2, (fun q => by cases q.1), h4⟩
theorem mayF_repl {n : Int} {b : Bk} {q r : List Bk} (hq : ∀ f, mayF n b.a f (b :: r) = true → mayF n b.a f (q ++ r) = true) : ∀ (p : List Bk) (a : Int) (f : Bool), mayF n a f (p ++ b :: r) = true → mayF n a f (p ++ (q ++ r)) = true
  | [], a, f, h => by
    have e := (mayF_cons.1 h).1
    subst e
    exact hq f h
  | c :: p, a, f, h => by
    obtain ⟨h1, h2, h3, h4⟩ := mayF_cons.1 h
    exact mayF_cons.2 ⟨h1, h2, h3, mayF_repl hq p _ _ h4⟩
/-- a free block that is taken leaves blocks that may be -/
theorem mayL_crv {m i n : Int} {l : List Bk} (h : mayL m l = true) (hc : canC l i n = true) : mayL m (crvF l i n) = true := by
  obtain ⟨_, h0, h1, hu, ht⟩ := canC_yes.1 hc
  rw [crvF, if_pos hc]
  obtain ⟨hm, hf⟩ := mayL_yes.1 h
  refine mayL_yes.2 ⟨hm, ?_⟩
  rw [bAt_split h0 h1] at hf
  obtain ⟨t1, t2, t3, t4⟩ := takN_some ht
  refine mayF_repl (fun f g => ?_) _ _ _ hf
  obtain ⟨_, hs, _, g⟩ := mayF_cons.1 g
  rw [hu] at g
  obtain ⟨s1, s2⟩ := hs
  unfold prtB
  split
  · rename_i e
    refine mayF_cons.2 ⟨rfl, ⟨s1, s2⟩, (fun q => by cases q.2), mayF_less g⟩
  · rename_i e
    have t5 := t4.resolve_left e
    refine mayF_cons.2 ⟨rfl, ⟨by simp only; omega, by simp only; omega⟩, (fun q => by cases q.2), ?_⟩
    refine mayF_cons.2 ⟨rfl, ⟨by simp only; omega, by simp only; omega⟩, (fun q => by cases q.1), ?_⟩
    have e2 : (bAt l i).a + takN (bAt l i).s n + ((bAt l i).s - takN (bAt l i).s n) = (bAt l i).a + (bAt l i).s := by omega
    simp only [e2]
    exact g
theorem edF_nil : edF [] = [] := rfl
theorem edF_cons (b : Bk) (r : List Bk) : edF (b :: r) = edB b ++ edF r := by rw [edF, List.flatMap_cons]; rfl
theorem edB_used (b : Bk) (h : b.u = true) : edB b = ⟨b.a, hdB b.s b.u⟩ :: rise (b.a + 1) (List.replicate (b.s - 1).toNat 0) := by rw [edB, edV, if_pos h, rise]
theorem edB_free (b : Bk) (h : b.u = false) : edB b = [⟨b.a, hdB b.s b.u⟩] := by rw [edB, edV, if_neg (by rw [h]; decide), rise, rise]
/-- the words of a block that is taken, and of what is left -/
def takV (b : Bk) (n : Int) : List Int := hdB (takN b.s n) true :: (List.replicate (takN b.s n - 1).toNat 0 ++ (if takN b.s n = b.s then [] else [hdB (b.s - takN b.s n) false]))
theorem takV_length {b : Bk} {n : Int} (h : takN b.s n ≠ 0) : ((takV b n).length : Int) = takN b.s n + (if takN b.s n = b.s then 0 else 1) := by
  obtain ⟨t1, t2, t3, t4⟩ := takN_some h
  rw [takV, List.length_cons, List.length_append, List.length_replicate]
  split <;> simp <;> omega
theorem edF_prt {b : Bk} {n : Int} (h : takN b.s n ≠ 0) : edF (prtB b n) = rise b.a (takV b n) := by
  obtain ⟨t1, t2, t3, t4⟩ := takN_some h
  unfold prtB takV
  split
  · rename_i e
    rw [edF_cons, edF_nil, List.append_nil, List.append_nil, edB, edV, if_pos rfl]
    simp only [e]
  · rw [edF_cons, edF_cons, edF_nil, List.append_nil, edB, edV, if_pos rfl, edB_free _ rfl]
    rw [← List.cons_append, rise_app, rise]
    congr 1
    simp only [rise, List.length_cons, List.length_replicate]
    congr 2
    push_cast
    omega
theorem takV_at {b : Bk} {n : Int} (h : takN b.s n ≠ 0) (k : Nat) : (takV b n).getD k 0 = if k = 0 then hdB (takN b.s n) true else if (k : Int) < takN b.s n then 0 else if (k : Int) = takN b.s n ∧ takN b.s n ≠ b.s then hdB (b.s - takN b.s n) false else 0 := by
  obtain ⟨t1, t2, t3, t4⟩ := takN_some h
  rw [takV]
  cases k with
  | zero => simp
  | succ k =>
    rw [List.getD_cons_succ, if_neg (show ¬ k + 1 = 0 by omega)]
    simp only [List.getD_eq_getElem?_getD]
    by_cases c : ((k + 1 : Nat) : Int) < takN b.s n
    · rw [if_pos c, List.getElem?_append_left (by rw [List.length_replicate]; omega), List.getElem?_replicate]
      split <;> rfl
    · rw [if_neg c, List.getElem?_append_right (by rw [List.length_replicate]; omega), List.length_replicate]
      by_cases d : takN b.s n = b.s
      · rw [if_pos d, if_neg (show ¬ (((k + 1 : Nat) : Int) = takN b.s n ∧ takN b.s n ≠ b.s) from fun q => q.2 d)]; rfl
      · rw [if_neg d]
        by_cases e : ((k + 1 : Nat) : Int) = takN b.s n
        · rw [if_pos ⟨e, d⟩]
          have e2 : k - (takN b.s n - 1).toNat = 0 := by omega
          rw [e2]; rfl
        · rw [if_neg (show ¬ (((k + 1 : Nat) : Int) = takN b.s n ∧ takN b.s n ≠ b.s) from fun q => e q.1)]
          have e2 : k - (takN b.s n - 1).toNat = (k - (takN b.s n - 1).toNat - 1) + 1 := by omega
          rw [e2]; rfl
/-- words at whose places the headers stand are read as the blocks -/
theorem blkF_of {v : List Int} {l : List Bk} (h : mayL v.length l = true) (hv : ∀ b ∈ l, v.getD b.a.toNat 0 = hdB b.s b.u) : blkF v = some l := by
  obtain ⟨k, hk, hf, hz, hm⟩ := mayL_fuel h
  have := rdF_pre (v := v) (r := []) k l 0 false (by rw [List.append_nil]; exact hf) hv
  rw [blkF, hk, this, rdF_end (by omega), Option.map_some, List.append_nil]
  rw [← hk]
  simp only [Option.bind_some]
  rw [if_pos h]
theorem szs_app : ∀ p r : List Bk, szs (p ++ r) = szs p + szs r
  | [], r => by simp [szs]
  | b :: p, r => by rw [List.cons_append, szs, szs, szs_app p r, Int.add_assoc]
theorem frS_app : ∀ p r : List Bk, frS (p ++ r) = frS p + frS r
  | [], r => by simp [frS]
  | b :: p, r => by rw [List.cons_append, frS, frS, frS_app p r, Int.add_assoc]
theorem crv_length {l : List Bk} {i n : Int} (hc : canC l i n = true) : (crvF l i n).length = l.length + (if takN (bAt l i).s n = (bAt l i).s then 0 else 1) := by
  obtain ⟨_, h0, h1, hu, ht⟩ := canC_yes.1 hc
  rw [crvF, if_pos hc, List.length_append, List.length_append, List.length_take, List.length_drop, prtB]
  split <;> simp <;> omega
theorem crv_at {l : List Bk} {i n : Int} (hc : canC l i n = true) : bAt (crvF l i n) i = ⟨(bAt l i).a, takN (bAt l i).s n, true⟩ := by
  obtain ⟨_, h0, h1, hu, ht⟩ := canC_yes.1 hc
  have e : (l.take i.toNat).length = i.toNat := by rw [List.length_take]; omega
  rw [bAt, crvF, if_pos hc, List.getD_eq_getElem?_getD, List.getElem?_append_right (by omega), e, Nat.sub_self, prtB]
  split
  · rename_i q
    rw [q]; rfl
  · rfl
theorem crv_free {l : List Bk} {i n : Int} (hc : canC l i n = true) : frS (crvF l i n) = frS l - takN (bAt l i).s n := by
  obtain ⟨_, h0, h1, hu, ht⟩ := canC_yes.1 hc
  have e : frS l = frS (l.take i.toNat) + ((bAt l i).s + frS (l.drop (i.toNat + 1))) := by
    conv => lhs; rw [bAt_split h0 h1]
    rw [frS_app, frS, if_neg (by rw [hu]; decide)]
  rw [e, crvF, if_pos hc, frS_app, frS_app, prtB]
  split
  · rename_i q
    simp only [frS, if_true, q]
    omega
  · simp only [frS, if_true]
    simp
    omega
theorem offB_in {n : Int} {l : List Bk} {b : Bk} (h : mayL n l = true) (hb : b ∈ l) : 0 ≤ b.a ∧ b.a ≤ 512 ∧ offB b.a = b.a * 8 + 8 := by
  obtain ⟨⟨_, h5, _⟩, hf⟩ := mayL_yes.1 h
  obtain ⟨⟨h1, _⟩, h2, h3⟩ := mayF_sizes hf b hb
  refine ⟨h2, by omega, ?_⟩
  rw [offB, if_pos (by omega)]
  omega
end Go.Proofs.Ytdnijdbhdlengaa
