/-
  The machine, plainly: a stack told from its top, a step, a run; what is known of runs.
-/
namespace Go.Proofs.Ytlgjfhjnfimahaa

def wrapI (x : Int) : Int := (x + 9223372036854775808) % 18446744073709551616 - 9223372036854775808

/-- one step: the stack behind it, if it can be done (the stack is told from its top) -/
def stp (row t : List Int) (k n : Int) : Option (List Int) :=
  if k = 1 then (if t.length = 1000 then none else some (n :: t))
  else if k = 2 then (match t with | b :: a :: r => some (wrapI (a + b) :: r) | _ => none)
  else if k = 3 then (match t with | b :: a :: r => if b = 0 then none else some (wrapI (a.tdiv b) :: r) | _ => none)
  else if k = 4 then (match t with | b :: r => if 0 ≤ b ∧ b < row.length then some (row.getD b.toNat 0 :: r) else none | _ => none)
  else if k = 5 then (match t with | _ :: r => some r | _ => none)
  else none

/-- a run: the stack, how many steps were done, whether all were -/
def run (row : List Int) : List Int → Nat → List (Int × Int) → List Int × Nat × Bool
  | t, d, [] => (t, d, true)
  | t, d, p :: l => match stp row t p.1 p.2 with
    | none => (t, d, false)
    | some t' => run row t' (d + 1) l

theorem stp_length {row t t' : List Int} {k n : Int} (h : stp row t k n = some t') (ht : t.length ≤ 1000) : t'.length ≤ 1000 := by
  unfold stp at h
  split at h
  · split at h <;> cases h; simp only [List.length_cons]; omega
  split at h
  · split at h <;> cases h; simp only [List.length_cons] at ht ⊢; omega
  split at h
  · split at h
    · split at h <;> cases h; simp only [List.length_cons] at ht ⊢; omega
    · cases h
  split at h
  · split at h
    · split at h <;> cases h; simp only [List.length_cons] at ht ⊢; omega
    · cases h
  split at h
  · split at h <;> cases h; simp only [List.length_cons] at ht; omega
  · cases h

theorem run_length (row : List Int) : ∀ (l : List (Int × Int)) (t : List Int) (d : Nat), t.length ≤ 1000 → (run row t d l).1.length ≤ 1000
  | [], t, d, h => h
  | p :: l, t, d, h => by
    unfold run
    cases hs : stp row t p.1 p.2 with
    | none => exact h
    | some t' => exact run_length row l t' (d + 1) (stp_length hs h)

theorem drop_at {l : List (Int × Int)} {k : Nat} (h : k < l.length) : l.drop k = l.getD k (0, 0) :: l.drop (k + 1) := by
  rw [List.drop_eq_getElem_cons h]; simp [h]
theorem run_some {row t t' : List Int} {d k : Nat} {l : List (Int × Int)} (h : k < l.length) (hs : stp row t (l.getD k (0, 0)).1 (l.getD k (0, 0)).2 = some t') : run row t d (l.drop k) = run row t' (d + 1) (l.drop (k + 1)) := by
  rw [drop_at h]; conv => lhs; unfold run; rw [hs]
theorem run_none {row t : List Int} {d k : Nat} {l : List (Int × Int)} (h : k < l.length) (hs : stp row t (l.getD k (0, 0)).1 (l.getD k (0, 0)).2 = none) : run row t d (l.drop k) = (t, d, false) := by
  rw [drop_at h]; unfold run; rw [hs]
theorem run_end {row t : List Int} {d : Nat} {l : List (Int × Int)} : run row t d (l.drop l.length) = (t, d, true) := by
  rw [List.drop_length]; rfl

/-- so many steps are done as are told -/
theorem run_count (row : List Int) : ∀ (l : List (Int × Int)) (t : List Int) (d : Nat), d ≤ (run row t d l).2.1 ∧ (run row t d l).2.1 ≤ d + l.length ∧ ((run row t d l).2.2 = true ↔ (run row t d l).2.1 = d + l.length)
  | [], t, d => by simp [run]
  | p :: l, t, d => by
    unfold run
    cases hs : stp row t p.1 p.2 with
    | none => simp
    | some t' =>
      obtain ⟨h1, h2, h3⟩ := run_count row l t' (d + 1)
      simp only [List.length_cons]
      refine ⟨by omega, by omega, h3.trans ⟨fun h => by omega, fun h => by omega⟩⟩

/-- those that were done alone come to the same stack -/
theorem run_take (row : List Int) : ∀ (l : List (Int × Int)) (t : List Int) (d : Nat), run row t d (l.take ((run row t d l).2.1 - d)) = ((run row t d l).1, (run row t d l).2.1, true)
  | [], t, d => by simp [run]
  | p :: l, t, d => by
    cases hs : stp row t p.1 p.2 with
    | none =>
      have e : run row t d (p :: l) = (t, d, false) := by conv => lhs; unfold run; rw [hs]
      rw [e]; simp [run]
    | some t' =>
      have e : run row t d (p :: l) = run row t' (d + 1) l := by conv => lhs; unfold run; rw [hs]
      rw [e]
      obtain ⟨h1, h2, _⟩ := run_count row l t' (d + 1)
      rw [show (run row t' (d + 1) l).2.1 - d = (run row t' (d + 1) l).2.1 - (d + 1) + 1 by omega, List.take_succ_cons]
      have e2 : ∀ m, run row t d (p :: m) = run row t' (d + 1) m := fun m => by conv => lhs; unfold run; rw [hs]
      rw [e2]
      exact run_take row l t' (d + 1)

/-- behind a step that fails nothing is done -/
theorem run_more (row : List Int) (m : List (Int × Int)) : ∀ (l : List (Int × Int)) (t : List Int) (d : Nat), (run row t d l).2.2 = false → run row t d (l ++ m) = run row t d l
  | [], t, d, h => by simp [run] at h
  | p :: l, t, d, h => by
    rw [List.cons_append]
    unfold run at h ⊢
    cases hs : stp row t p.1 p.2 with
    | none => rfl
    | some t' => rw [hs] at h; exact run_more row m l t' (d + 1) h

/-- behind steps that were all done the others go on from there -/
theorem run_append (row : List Int) (m : List (Int × Int)) : ∀ (l : List (Int × Int)) (t : List Int) (d : Nat), (run row t d l).2.2 = true → run row t d (l ++ m) = run row (run row t d l).1 (run row t d l).2.1 m
  | [], t, d, _ => by simp [run]
  | p :: l, t, d, h => by
    rw [List.cons_append]
    unfold run at h
    conv => lhs; unfold run
    cases hs : stp row t p.1 p.2 with
    | none => rw [hs] at h; simp at h
    | some t' =>
      rw [hs] at h
      have e : run row t d (p :: l) = run row t' (d + 1) l := by conv => lhs; unfold run; rw [hs]
      rw [e]
      exact run_append row m l t' (d + 1) h

/-! ### the stack as it lies, from below -/
theorem rev2 (a b : Int) (r : List Int) : (b :: a :: r).reverse = r.reverse ++ [a] ++ [b] := by simp
theorem rev_at0 (b : Int) (r : List Int) : (b :: r).reverse.getD r.length 0 = b := by
  rw [List.getD_eq_getElem?_getD, List.reverse_cons, List.getElem?_append_right (by simp)]; simp
theorem rev_at1 (a b : Int) (r : List Int) : (b :: a :: r).reverse.getD r.length 0 = a := by
  rw [List.getD_eq_getElem?_getD, rev2, List.append_assoc, List.getElem?_append_right (by simp)]; simp
theorem rev_take0 (b : Int) (r : List Int) : (b :: r).reverse.take r.length = r.reverse := by
  rw [List.reverse_cons, List.take_append_of_le_length (by simp), List.take_of_length_le (by simp)]
theorem rev_take1 (a b : Int) (r : List Int) : (b :: a :: r).reverse.take r.length = r.reverse := by
  rw [rev2, List.append_assoc, List.take_append_of_le_length (by simp), List.take_of_length_le (by simp)]
end Go.Proofs.Ytlgjfhjnfimahaa
