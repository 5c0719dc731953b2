/-
  A table, one word of it set: plain facts.
-/
import Derived.Test.YtjchmkgkibiadaaSpl
namespace Go.Proofs.Ytjchmkgkibiadaa

/-- behind a nought all are -/
theorem zeros_behind {l : List Int} {s : Int} (h : MayT l s) {k : Nat} (h0 : l.getD k 0 = 0) : ∀ j, k ≤ j → j < l.length → l.getD j 0 = 0 := by
  intro j
  induction j with
  | zero => intro hk _; have e : k = 0 := by omega
            rw [e] at h0; exact h0
  | succ j ih =>
    intro hk hj
    by_cases e : k = j + 1
    · subst e; exact h0
    · have hz := ih (by omega) (by omega)
      have g := (h.2 (j + 1) hj).2
      exact Classical.byContradiction fun hne => g ⟨by omega, hne, by simpa using hz⟩
theorem mayT_set {l : List Int} {s x : Int} {k : Nat} (h : MayT l s) (hk : k < l.length) (h0 : l.getD k 0 = 0) (hb : ∀ j, j < k → ¬ l.getD j 0 = 0) (hs : x ≤ s + 1) : mayT (l.set k x) s = true := by
  refine good_mayT h.1 fun j hj => ?_
  rw [List.length_set] at hj
  unfold Good
  rw [getD_setT hk, getD_setT hk]
  by_cases e : j = k
  · subst e
    rw [if_pos rfl]
    refine ⟨hs, fun ⟨g1, _, g3⟩ => ?_⟩
    rw [if_neg (by omega)] at g3
    exact hb _ (by omega) g3
  · rw [if_neg e]
    refine ⟨(h.2 j hj).1, fun ⟨g1, g2, g3⟩ => ?_⟩
    by_cases e2 : j - 1 = k
    · exact g2 (zeros_behind h h0 j (by omega) hj)
    · rw [if_neg e2] at g3
      exact (h.2 j hj).2 ⟨g1, g2, g3⟩
theorem plT_congr {l l' : List Int} {s b : Int} : ∀ {n : Nat}, (∀ j, j < n → (l'.getD j 0 = b + 1 ↔ l.getD j 0 = b + 1)) → plT l' s b n = plT l s b n
  | 0, _ => rfl
  | n + 1, h => by
    have ih := plT_congr (s := s) (n := n) fun j hj => h j (by omega)
    rw [plT, plT, ih]
    by_cases e : l.getD n 0 = b + 1
    · rw [if_pos e, if_pos ((h n (by omega)).2 e)]
    · rw [if_neg e, if_neg (fun g => e ((h n (by omega)).1 g))]
theorem placeT_set_other {l : List Int} {s b x : Int} {k : Nat} (hk : k < l.length) (h0 : l.getD k 0 = 0) (hb : 0 ≤ b) (hx : ¬ x = b + 1) : placeT (l.set k x) s b = placeT l s b := by
  unfold placeT
  rw [List.length_set, plT_congr fun j hj => ?_]
  rw [getD_setT hk]
  by_cases e : j = k
  · subst e; rw [if_pos rfl]; constructor <;> intro g <;> omega
  · rw [if_neg e]
theorem placeT_set_own {l : List Int} {s a : Int} {k : Nat} (h : MayT l s) (hk : k < l.length) (h0 : l.getD k 0 = 0) (ha : 0 ≤ a) (has : a < s) : placeT (l.set k (a + 1)) s a = s + k := by
  unfold placeT
  rw [if_pos ⟨ha, has⟩, List.length_set]
  refine plT_last hk (by rw [getD_setT hk, if_pos rfl]) fun j h1 h2 => ?_
  rw [getD_setT hk, if_neg (by omega), zeros_behind h h0 j (by omega) h2]
  omega
theorem lfT_set {l : List Int} {x : Int} {k : Nat} (hk : k < l.length) (h0 : l.getD k 0 = 0) (hx : ¬ x = 0) : ∀ n, lfT l n = lfT (l.set k x) n + (if k < n then 1 else 0)
  | 0 => by simp [lfT]
  | n + 1 => by
    have ih := lfT_set hk h0 hx n
    rw [lfT, lfT, ih, getD_setT hk]
    by_cases e : n = k
    · subst e
      rw [if_pos rfl, if_neg hx, if_pos h0, if_neg (by omega), if_pos (by omega)]
    · rw [if_neg e]
      by_cases hkn : k < n
      · rw [if_pos hkn, if_pos (by omega : k < n + 1)]; omega
      · rw [if_neg hkn, if_neg (by omega : ¬ k < n + 1)]; omega
theorem leftT_set {l : List Int} {x : Int} {k : Nat} (hk : k < l.length) (h0 : l.getD k 0 = 0) (hx : ¬ x = 0) : leftT l = leftT (l.set k x) + 1 := by
  have := lfT_set hk h0 hx l.length
  rw [if_pos hk] at this
  unfold leftT
  rw [List.length_set]; exact this
theorem leftT_zero {l : List Int} (h : ∀ j, j < l.length → ¬ l.getD j 0 = 0) : leftT l = 0 := by
  have : ∀ n, n ≤ l.length → lfT l n = 0 := by
    intro n
    induction n with
    | zero => intro _; rfl
    | succ n ih => intro hn; rw [lfT_miss (h n (by omega)), ih (by omega)]
  exact this _ (Nat.le_refl _)

/-- n of p spare lines given to the slot whose word is x -/
def chainT (p n : Nat) (x : Int) : List Int := List.replicate n x ++ List.replicate (p - n) 0
theorem chainT_length {p n : Nat} {x : Int} (h : n ≤ p) : (chainT p n x).length = p := by simp [chainT]; omega
theorem chainT_getD {p n k : Nat} {x : Int} : (chainT p n x).getD k 0 = if k < n then x else 0 := by
  rw [chainT, List.getD_eq_getElem?_getD]
  by_cases h : k < n
  · rw [if_pos h, List.getElem?_append_left (by simpa using h), List.getElem?_replicate, if_pos h]; rfl
  · rw [if_neg h, List.getElem?_append_right (by simp; omega), List.getElem?_replicate]; split <;> rfl
theorem chainT_zero (p : Nat) (x : Int) : chainT p 0 x = List.replicate p 0 := by simp [chainT]
theorem chainT_set {p n : Nat} {x : Int} (h : n < p) : (chainT p n x).set n x = chainT p (n + 1) x := by
  refine List.ext_getElem (by simp [chainT]; omega) fun i h1 h2 => ?_
  have e1 : ((chainT p n x).set n x).getD i 0 = (chainT p (n + 1) x).getD i 0 := by
    rw [getD_setT (by rw [chainT_length (by omega)]; exact h), chainT_getD, chainT_getD]
    by_cases e : i = n
    · subst e; rw [if_pos rfl, if_pos (by omega)]
    · rw [if_neg e]
      by_cases hi : i < n
      · rw [if_pos hi, if_pos (by omega)]
      · rw [if_neg hi, if_neg (by omega)]
  simpa [List.getD_eq_getElem?_getD, List.getElem?_eq_getElem h1, List.getElem?_eq_getElem h2] using e1
theorem chainT_next {p n : Nat} {x : Int} (h : n < p) (hx : ¬ x = 0) : nextT (chainT p n x) = n :=
  nextT_at (by rw [chainT_length (by omega)]; exact h) (by rw [chainT_getD, if_neg (by omega)]) fun j hj => by rw [chainT_getD, if_pos hj]; exact hx
theorem chainT_full {p : Nat} {x : Int} (hx : ¬ x = 0) : nextT (chainT p p x) = -1 :=
  nextT_none fun j hj => by rw [chainT_length (Nat.le_refl _)] at hj; rw [chainT_getD, if_pos hj]; exact hx
theorem chainT_left {p n : Nat} {x : Int} (h : n ≤ p) (hx : ¬ x = 0) : leftT (chainT p n x) = p - n := by
  have : ∀ m, m ≤ p → lfT (chainT p n x) m = m - n := by
    intro m
    induction m with
    | zero => intro _; rw [lfT]; omega
    | succ m ih =>
      intro hm
      by_cases e : m < n
      · rw [lfT_miss (by rw [chainT_getD, if_pos e]; exact hx), ih (by omega)]; omega
      · rw [lfT_hit (by rw [chainT_getD, if_neg e]), ih (by omega)]; omega
  unfold leftT
  rw [chainT_length h]; exact this p (Nat.le_refl _)
theorem chainT_place {p n : Nat} {s a : Int} (h : n + 1 ≤ p) (ha : 0 ≤ a) (has : a < s) : placeT (chainT p (n + 1) (a + 1)) s a = s + n := by
  unfold placeT
  rw [if_pos ⟨ha, has⟩, chainT_length h]
  refine plT_last (by omega) (by rw [chainT_getD, if_pos (by omega)]) fun j h1 h2 => ?_
  rw [chainT_getD, if_neg (by omega)]; omega
theorem chainT_may {p n : Nat} {s a : Int} (ha : 0 ≤ a) (has : a < s) : mayT (chainT p n (a + 1)) s = true := by
  refine good_mayT (by omega) fun k _ => ⟨?_, ?_⟩
  · rw [chainT_getD]; split <;> omega
  · rw [chainT_getD, chainT_getD]
    rintro ⟨h0, h1, h2⟩
    by_cases e : k < n
    · rw [if_pos (by omega)] at h2; omega
    · rw [if_neg e] at h1; exact h1 rfl
end Go.Proofs.Ytjchmkgkibiadaa
