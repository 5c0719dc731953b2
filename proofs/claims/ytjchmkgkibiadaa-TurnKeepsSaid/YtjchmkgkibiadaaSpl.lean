/-
  A table of spare lines in plain words: which may be one, the line that stands for a slot, the first one that is nobody's, how many are.
-/
import Derived.Test.YtjchmkgkibiadaaRu
namespace Go.Proofs.Ytjchmkgkibiadaa

/-- the word at place k is no more than the dead one's, and none is behind a nought -/
def Good (l : List Int) (s : Int) (k : Nat) : Prop := l.getD k 0 ≤ s + 1 ∧ ¬ (0 < k ∧ ¬ l.getD k 0 = 0 ∧ l.getD (k - 1) 0 = 0)
/-- it can be a table of s slots -/
def MayT (l : List Int) (s : Int) : Prop := 1 ≤ s ∧ ∀ k, k < l.length → Good l s k
instance (l : List Int) (s : Int) : Decidable (MayT l s) := by unfold MayT Good; exact inferInstance
/-- whether it can be a table of s slots -/
def mayT (l : List Int) (s : Int) : Bool := decide (MayT l s)
/-- the line that stands for slot a, by the first n words -/
def plT (l : List Int) (s a : Int) : Nat → Int
  | 0 => a
  | n + 1 => if l.getD n 0 = a + 1 then s + n else plT l s a n
theorem plT_hit {l : List Int} {s a : Int} {n : Nat} (h : l.getD n 0 = a + 1) : plT l s a (n + 1) = s + n := by rw [plT, if_pos h]
theorem plT_miss {l : List Int} {s a : Int} {n : Nat} (h : ¬ l.getD n 0 = a + 1) : plT l s a (n + 1) = plT l s a n := by rw [plT, if_neg h]
theorem plT_none {l : List Int} {s a : Int} : ∀ {n : Nat}, (∀ k, k < n → ¬ l.getD k 0 = a + 1) → plT l s a n = a
  | 0, _ => rfl
  | n + 1, h => by rw [plT_miss (h n (by omega)), plT_none fun k hk => h k (by omega)]
theorem plT_last {l : List Int} {s a : Int} : ∀ {n k : Nat}, k < n → l.getD k 0 = a + 1 → (∀ j, k < j → j < n → ¬ l.getD j 0 = a + 1) → plT l s a n = s + k
  | 0, _, hk, _, _ => by omega
  | n + 1, k, hk, h, hj => by
    by_cases e : k = n
    · subst e; exact plT_hit h
    · rw [plT_miss (hj n (by omega) (by omega)), plT_last (by omega) h fun j h1 h2 => hj j h1 (by omega)]
/-- what it is: the slot's own line and no word says so, or a spare one and its word is the last that says so -/
theorem plT_is (l : List Int) (s a : Int) : ∀ n : Nat, (plT l s a n = a ∧ ∀ k, k < n → ¬ l.getD k 0 = a + 1) ∨ ∃ k : Nat, k < n ∧ plT l s a n = s + k ∧ l.getD k 0 = a + 1
  | 0 => .inl ⟨rfl, fun k hk => by omega⟩
  | n + 1 => by
    by_cases h : l.getD n 0 = a + 1
    · exact .inr ⟨n, by omega, plT_hit h, h⟩
    · rw [plT_miss h]
      rcases plT_is l s a n with ⟨e, g⟩ | ⟨k, hk, e, g⟩
      · refine .inl ⟨e, fun k hk => ?_⟩
        by_cases hkn : k = n
        · subst hkn; exact h
        · exact g k (by omega)
      · exact .inr ⟨k, by omega, e, g⟩
/-- the line that stands for slot a; -1 where there is no such slot -/
def placeT (l : List Int) (s a : Int) : Int := if 0 ≤ a ∧ a < s then plT l s a l.length else -1
/-- the first nought's place among all, or the length -/
def zeroT (l : List Int) : Nat := l.findIdx (fun x => decide (x = 0))
def nextT (l : List Int) : Int := if zeroT l < l.length then (zeroT l : Int) else -1
theorem zeroT_before {l : List Int} {k : Nat} (h : k < zeroT l) : ¬ l.getD k 0 = 0 := by
  have h' : k < l.findIdx (fun x => decide (x = 0)) := h
  have hl : k < l.length := Nat.lt_of_lt_of_le h' List.findIdx_le_length
  have := List.not_of_lt_findIdx h'
  rw [List.getD_eq_getElem?_getD, List.getElem?_eq_getElem hl]
  exact of_decide_eq_false this
theorem zeroT_at {l : List Int} (h : zeroT l < l.length) : l.getD (zeroT l) 0 = 0 := by
  have := of_decide_eq_true (List.findIdx_getElem (xs := l) (p := fun x => decide (x = 0)) (w := h))
  rw [List.getD_eq_getElem?_getD, List.getElem?_eq_getElem h]
  exact this
theorem zeroT_le (l : List Int) : zeroT l ≤ l.length := List.findIdx_le_length
theorem zeroT_eq {l : List Int} {k : Nat} (hk : k < l.length) (h0 : l.getD k 0 = 0) (h : ∀ j, j < k → ¬ l.getD j 0 = 0) : zeroT l = k := by
  rcases Nat.lt_trichotomy (zeroT l) k with hl | hl | hl
  · exact absurd (zeroT_at (by omega)) (h _ hl)
  · exact hl
  · exact absurd h0 (zeroT_before hl)
theorem zeroT_none {l : List Int} (h : ∀ j, j < l.length → ¬ l.getD j 0 = 0) : zeroT l = l.length := by
  have := zeroT_le l
  by_cases e : zeroT l < l.length
  · exact absurd (zeroT_at e) (h _ e)
  · omega
theorem nextT_at {l : List Int} {k : Nat} (hk : k < l.length) (h0 : l.getD k 0 = 0) (h : ∀ j, j < k → ¬ l.getD j 0 = 0) : nextT l = k := by rw [nextT, zeroT_eq hk h0 h, if_pos hk]
theorem nextT_none {l : List Int} (h : ∀ j, j < l.length → ¬ l.getD j 0 = 0) : nextT l = -1 := by rw [nextT, zeroT_none h, if_neg (by omega)]
theorem nextT_is (l : List Int) : (nextT l = -1 ∧ ∀ j, j < l.length → ¬ l.getD j 0 = 0) ∨ ∃ k : Nat, k < l.length ∧ nextT l = k ∧ l.getD k 0 = 0 ∧ ∀ j, j < k → ¬ l.getD j 0 = 0 := by
  by_cases h : zeroT l < l.length
  · exact .inr ⟨zeroT l, h, by rw [nextT, if_pos h], zeroT_at h, fun j hj => zeroT_before hj⟩
  · refine .inl ⟨by rw [nextT, if_neg h], fun j hj => zeroT_before (by omega)⟩
/-- how many of the first n are noughts -/
def lfT (l : List Int) : Nat → Nat
  | 0 => 0
  | n + 1 => lfT l n + (if l.getD n 0 = 0 then 1 else 0)
def leftT (l : List Int) : Nat := lfT l l.length
theorem lfT_hit {l : List Int} {n : Nat} (h : l.getD n 0 = 0) : lfT l (n + 1) = lfT l n + 1 := by rw [lfT, if_pos h]
theorem lfT_miss {l : List Int} {n : Nat} (h : ¬ l.getD n 0 = 0) : lfT l (n + 1) = lfT l n := by rw [lfT, if_neg h]; rfl
theorem lfT_le (l : List Int) : ∀ n, lfT l n ≤ n
  | 0 => Nat.le_refl _
  | n + 1 => by have := lfT_le l n; rw [lfT]; split <;> omega
theorem leftT_le (l : List Int) : leftT l ≤ l.length := lfT_le l _
/-- the word that tells that a line can be nobody's any more -/
def deadT (s : Int) : Int := if s < 1 then 0 else s + 1
theorem getD_setT {l : List Int} {i k : Nat} {x : Int} (hi : i < l.length) : (l.set i x).getD k 0 = if k = i then x else l.getD k 0 := by
  rw [List.getD_eq_getElem?_getD, List.getD_eq_getElem?_getD, List.getElem?_set]
  by_cases h : k = i
  · subst h; simp [hi]
  · rw [if_neg (fun e => h e.symm), if_neg h]
theorem good_mayT {l : List Int} {s : Int} (h1 : 1 ≤ s) (h : ∀ k, k < l.length → Good l s k) : mayT l s = true := decide_eq_true ⟨h1, h⟩
theorem mayT_few {l : List Int} {s : Int} (h1 : s < 1) : mayT l s = false := decide_eq_false fun h => by have := h.1; omega
theorem mayT_bad {l : List Int} {s : Int} {k : Nat} (hk : k < l.length) (h : ¬ Good l s k) : mayT l s = false := decide_eq_false fun g => h (g.2 k hk)
theorem mayT_iff {l : List Int} {s : Int} : mayT l s = true ↔ MayT l s := decide_eq_true_iff
end Go.Proofs.Ytjchmkgkibiadaa
