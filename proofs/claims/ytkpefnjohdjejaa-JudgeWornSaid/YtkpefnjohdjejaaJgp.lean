/-
  A judge plainly: what it says of an answer, and what it is then.
-/
import Derived.Test.YtkpefnjohdjejaaMwr
namespace Go.Proofs.Ytkpefnjohdjejaa
set_option maxRecDepth 100000
open Go.ChangeShapes Go.WideShapes Go.ChangeAt Go.RowKit

/-- a judge: its model's words, blocks, root; is it worn -/
structure Js where
  wl : List Int
  l : List Bk
  r : Int
  w : Bool
/-- an error, and nothing beside it -/
def bare3 (e off : Int) (da : List Int) (k : Int) : Prop := e = k ∧ off = 0 ∧ da = []
instance (e off : Int) (da : List Int) (k : Int) : Decidable (bare3 e off da k) := by unfold bare3; infer_instance
/-- what is told of a taking -/
def SeeA (s : Js) (n e off : Int) (da : List Int) (b : Bool) (s' : Js) : Prop :=
  if needN n = 0 then b = decide (bare3 e off da 1) ∧ s' = s
  else if bare3 e off da 3 then b = true ∧ s' = { s with w := true }
  else if s.w = true then b = false ∧ s' = s
  else if bare3 e off da 4 then b = decide (fos (needN n) s.l = []) ∧ s' = s
  else if e = 0 ∧ da = [] then b = (alQ (needN n) s.l off).isSome ∧ s' = { s with wl := alW s.wl (needN n) s.l off, l := alB (needN n) s.l off }
  else b = false ∧ s' = s
/-- what a change makes of the model -/
def ChQ (s : Js) (d o : Int) (bl : List Int) (er : Int) (s2 : Js) : Prop :=
  if d = 2 then er = feQ s.l o s.r ∧ s2 = ⟨feW s.wl s.l o s.r, feB s.l o s.r, s.r, s.w⟩
  else if d = 4 then er = refF s.wl o bl.length ∧ ∃ M, WrT s.wl bl o M ∧ s2 = ⟨appF s.wl M, s.l, s.r, s.w⟩
  else er = srQ s.l o ∧ s2 = ⟨s.wl, s.l, if srQ s.l o = 0 then o else s.r, s.w⟩
/-- it writes something -/
def must (d : Int) (bl : List Int) : Prop := ¬ (d = 4 ∧ bl = [])
instance (d : Int) (bl : List Int) : Decidable (must d bl) := by unfold must; infer_instance
/-- what is told of a change -/
def SeeC (s : Js) (d o : Int) (bl : List Int) (e off : Int) (da : List Int) (b : Bool) (s' : Js) : Prop :=
  ∃ er s2, ChQ s d o bl er s2 ∧
    if er = 0 ∧ must d bl ∧ bare3 e off da 3 then b = true ∧ s' = { s with w := true }
    else if er = 0 ∧ must d bl ∧ s.w = true then b = false ∧ s' = s
    else if bare3 e off da er then b = true ∧ s' = s2
    else b = false ∧ s' = s
/-- what is told of an operation -/
def SeeQ (s : Js) (d o n : Int) (bl : List Int) (e off : Int) (da : List Int) (b : Bool) (s' : Js) : Prop :=
  if d = 1 then SeeA s n e off da b s'
  else if d = 2 ∨ d = 4 ∨ d = 5 then SeeC s d o bl e off da b s'
  else if d = 3 then b = decide (e = refF s.wl o n ∧ off = 0 ∧ da = rdR s.wl o n) ∧ s' = s
  else if d = 6 then b = decide (e = 0 ∧ off = s.r ∧ da = []) ∧ s' = s
  else b = decide (bare3 e off da 1) ∧ s' = s
theorem SeeA.one {s : Js} {n e off : Int} {da : List Int} {b b' : Bool} {s' s'' : Js} (h : SeeA s n e off da b s') (h' : SeeA s n e off da b' s'') : b = b' ∧ s' = s'' := by
  unfold SeeA at h h'
  repeat' split at h
  all_goals (simp_all)
theorem ChQ.one {s : Js} {d o : Int} {bl : List Int} {er er' : Int} {s2 s2' : Js} (h : ChQ s d o bl er s2) (h' : ChQ s d o bl er' s2') : er = er' ∧ s2 = s2' := by
  unfold ChQ at h h'
  by_cases c2 : d = 2
  · rw [if_pos c2] at h h'; exact ⟨h.1.trans h'.1.symm, h.2.trans h'.2.symm⟩
  rw [if_neg c2] at h h'
  by_cases c4 : d = 4
  · rw [if_pos c4] at h h'
    obtain ⟨h1, M, h2, h3⟩ := h
    obtain ⟨g1, M', g2, g3⟩ := h'
    obtain rfl := h2.one g2
    exact ⟨h1.trans g1.symm, h3.trans g3.symm⟩
  rw [if_neg c4] at h h'
  exact ⟨h.1.trans h'.1.symm, h.2.trans h'.2.symm⟩
theorem SeeC.one {s : Js} {d o : Int} {bl : List Int} {e off : Int} {da : List Int} {b b' : Bool} {s' s'' : Js} (h : SeeC s d o bl e off da b s') (h' : SeeC s d o bl e off da b' s'') : b = b' ∧ s' = s'' := by
  obtain ⟨er, s2, h1, h⟩ := h
  obtain ⟨er', s2', h1', h'⟩ := h'
  obtain ⟨rfl, rfl⟩ := h1.one h1'
  split at h
  · rename_i q
    rw [if_pos q] at h'
    exact ⟨h.1.trans h'.1.symm, h.2.trans h'.2.symm⟩
  rename_i q
  rw [if_neg q] at h'
  split at h
  · rename_i q
    rw [if_pos q] at h'
    exact ⟨h.1.trans h'.1.symm, h.2.trans h'.2.symm⟩
  rename_i q
  rw [if_neg q] at h'
  split at h
  · rename_i q
    rw [if_pos q] at h'
    exact ⟨h.1.trans h'.1.symm, h.2.trans h'.2.symm⟩
  rename_i q
  rw [if_neg q] at h'
  exact ⟨h.1.trans h'.1.symm, h.2.trans h'.2.symm⟩
theorem SeeQ.one {s : Js} {d o n : Int} {bl : List Int} {e off : Int} {da : List Int} {b b' : Bool} {s' s'' : Js} (h : SeeQ s d o n bl e off da b s') (h' : SeeQ s d o n bl e off da b' s'') : b = b' ∧ s' = s'' := by
  unfold SeeQ at h h'
  by_cases c1 : d = 1
  · rw [if_pos c1] at h h'; exact h.one h'
  rw [if_neg c1] at h h'
  by_cases c2 : d = 2 ∨ d = 4 ∨ d = 5
  · rw [if_pos c2] at h h'; exact h.one h'
  rw [if_neg c2] at h h'
  by_cases c3 : d = 3
  · rw [if_pos c3] at h h'; exact ⟨h.1.trans h'.1.symm, h.2.trans h'.2.symm⟩
  rw [if_neg c3] at h h'
  by_cases c6 : d = 6
  · rw [if_pos c6] at h h'; exact ⟨h.1.trans h'.1.symm, h.2.trans h'.2.symm⟩
  rw [if_neg c6] at h h'
  exact ⟨h.1.trans h'.1.symm, h.2.trans h'.2.symm⟩
/-- a change that fails changes nothing -/
theorem chq_no {s : Js} {d o : Int} {bl : List Int} {er : Int} {s2 : Js} (h : ChQ s d o bl er s2) (h0 : er ≠ 0) : s2 = s := by
  unfold ChQ at h
  split at h
  · obtain ⟨rfl, rfl⟩ := h
    unfold feQ at h0
    unfold feW feB
    cases hi : isN o s.l with
    | none => rfl
    | some k =>
      rw [hi] at h0
      dsimp only at h0 ⊢
      by_cases q : o = s.r
      · rw [if_pos q, if_pos q]
      · rw [if_neg q] at h0; exact absurd rfl h0
  · split at h
    · obtain ⟨rfl, M, hM, rfl⟩ := h
      unfold WrT at hM
      rw [if_neg h0] at hM
      rw [hM]; rfl
    · obtain ⟨rfl, rfl⟩ := h
      rw [if_neg h0]
end Go.Proofs.Ytkpefnjohdjejaa
