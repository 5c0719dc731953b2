/-
  Where each line stands, in plain Lean: n lines on n + 1 slots, m moves: the gap, the slot of a line, the line of a slot; what a move moves; a line's slot by one division.
-/
import Derived.Test.YtjchmkgkibiadaaLaw
namespace Go.Proofs.Ytjchmkgkibiadaa

/-- the slot that is the gap -/
def gN (n m : Nat) : Nat := n - m % (n + 1)
/-- by how much the lines have moved on -/
def sN (n m : Nat) : Nat := m / (n + 1) % n
/-- the slot of a line -/
def slN (n m l : Nat) : Nat := if (l + sN n m) % n < gN n m then (l + sN n m) % n else (l + sN n m) % n + 1
/-- the line of a slot that is not the gap -/
def lnN (n m s : Nat) : Nat := ((if gN n m < s then s - 1 else s) + n - sN n m) % n
/-- from where the next move copies -/
def frN (n m : Nat) : Nat := if gN n m = 0 then n else gN n m - 1

theorem gN_le (n m : Nat) : gN n m ≤ n := Nat.sub_le _ _
theorem sN_lt {n : Nat} (h : 0 < n) (m : Nat) : sN n m < n := Nat.mod_lt _ h
theorem frN_le (n m : Nat) : frN n m ≤ n := by unfold frN; have := gN_le n m; split <;> omega
theorem frN_ne {n : Nat} (h : 0 < n) (m : Nat) : frN n m ≠ gN n m := by unfold frN; split <;> omega

/-- a remainder of what is less than twice as much -/
theorem mod2 {a n : Nat} (h : a < 2 * n) : a % n = if a < n then a else a - n := by
  by_cases c : a < n
  · rw [if_pos c, Nat.mod_eq_of_lt c]
  · rw [if_neg c, Nat.mod_eq_sub_mod (by omega), Nat.mod_eq_of_lt (by omega)]

theorem slN_le {n : Nat} (h : 0 < n) (m l : Nat) : slN n m l ≤ n := by
  unfold slN
  have := Nat.mod_lt (l + sN n m) h
  split <;> omega
theorem slN_ne (n m l : Nat) : slN n m l ≠ gN n m := by unfold slN; split <;> omega
theorem lnN_lt {n : Nat} (h : 0 < n) (m s : Nat) : lnN n m s < n := Nat.mod_lt _ h

/-- each line is found where it stands -/
theorem lnN_slN {n : Nat} (m : Nat) {l : Nat} (h : l < n) : lnN n m (slN n m l) = l := by
  have hs := sN_lt (n := n) (by omega) m
  have e := mod2 (a := l + sN n m) (n := n) (by omega)
  unfold lnN slN
  generalize (l + sN n m) % n = p at e
  generalize sN n m = s at *
  generalize gN n m = g
  have hp : (if g < (if p < g then p else p + 1) then (if p < g then p else p + 1) - 1 else (if p < g then p else p + 1)) = p := by
    by_cases c : p < g
    · simp only [if_pos c]; split <;> omega
    · simp only [if_neg c]; rw [if_pos (by omega)]; omega
  rw [hp, mod2 (by split at e <;> omega)]
  split at e <;> split <;> omega
/-- and each slot that is not the gap holds a line that stands there -/
theorem slN_lnN {n : Nat} (hn : 0 < n) (m : Nat) {s : Nat} (h : s ≤ n) (hg : s ≠ gN n m) : slN n m (lnN n m s) = s := by
  have hs := sN_lt hn m
  have hgl := gN_le n m
  unfold slN lnN
  generalize sN n m = d at *
  generalize gN n m = g at *
  obtain ⟨p, hp⟩ : ∃ p, (if g < s then s - 1 else s) = p := ⟨_, rfl⟩
  have hpn : p < n := by split at hp <;> omega
  rw [hp, mod2 (a := p + n - d) (by omega)]
  have e : ((if p + n - d < n then p + n - d else p + n - d - n) + d) % n = p := by
    rw [mod2 (by split <;> omega)]; split <;> split <;> omega
  rw [e]
  split at hp <;> split <;> omega

/-- A LINE's SLOT BY ONE DIVISION: it goes on by one each n moves -/
theorem slN_eq {n l : Nat} (h : l < n) (m : Nat) : slN n m l = (l + (l + m) / n) % (n + 1) := by
  unfold slN sN gN
  have hq : m = m / (n + 1) * (n + 1) + m % (n + 1) := by have := Nat.div_add_mod m (n + 1); rw [Nat.mul_comm] at this; omega
  generalize m / (n + 1) = q at hq
  have hr : m % (n + 1) < n + 1 := Nat.mod_lt _ (by omega)
  generalize m % (n + 1) = r at *
  rw [Nat.add_mod_mod]
  have hu : l + q = (l + q) / n * n + (l + q) % n := by have := Nat.div_add_mod (l + q) n; rw [Nat.mul_comm] at this; omega
  have hp : (l + q) % n < n := Nat.mod_lt _ (by omega)
  generalize (l + q) / n = u at hu
  generalize (l + q) % n = p at *
  have e1 : (l + m) / n = q + u + (p + r) / n := by
    have : l + m = (p + r) + n * (q + u) := by rw [hq, Nat.mul_add, Nat.mul_add]; rw [Nat.mul_comm n q, Nat.mul_comm n u]; omega
    rw [this, Nat.add_mul_div_left _ _ (by omega)]; omega
  rw [e1]
  have e2 : l + (q + u + (p + r) / n) = (p + (p + r) / n) + (n + 1) * u := by rw [Nat.add_mul, Nat.mul_comm n u]; omega
  rw [e2, Nat.add_mul_mod_self_left]
  by_cases c : p < n - r
  · rw [if_pos c, Nat.div_eq_of_lt (by omega), Nat.mod_eq_of_lt (by omega)]; rfl
  · have : (p + r) / n = 1 := by
      rw [Nat.div_eq_sub_div (by omega) (by omega), Nat.div_eq_of_lt (by omega)]
    rw [if_neg c, this, Nat.mod_eq_of_lt (by omega)]

/-- where the gap goes: to where the line that moves came from -/
theorem gN_next {n : Nat} (m : Nat) : gN n (m + 1) = frN n m := by
  unfold frN gN
  have hr : m % (n + 1) < n + 1 := Nat.mod_lt _ (by omega)
  rw [Nat.add_mod]
  generalize m % (n + 1) = r at *
  by_cases h0 : n = 0
  · subst h0; simp
  rw [Nat.mod_eq_of_lt (a := 1) (by omega)]
  by_cases c : r = n
  · subst c
    rw [Nat.mod_self]; simp
  · rw [Nat.mod_eq_of_lt (by omega)]; split <;> omega

/-- each n moves a line is the one that moves -/
theorem slN_from {n l : Nat} (h : l < n) {m : Nat} (d : n ∣ l + m + 1) : slN n m l = frN n m := by
  unfold slN frN sN gN
  have hq : m = m / (n + 1) * (n + 1) + m % (n + 1) := by have := Nat.div_add_mod m (n + 1); rw [Nat.mul_comm] at this; omega
  generalize m / (n + 1) = q at hq
  have hr : m % (n + 1) < n + 1 := Nat.mod_lt _ (by omega)
  generalize m % (n + 1) = r at *
  rw [Nat.add_mod_mod]
  have hu : l + q = (l + q) / n * n + (l + q) % n := by have := Nat.div_add_mod (l + q) n; rw [Nat.mul_comm] at this; omega
  have hp : (l + q) % n < n := Nat.mod_lt _ (by omega)
  generalize (l + q) / n = u at hu
  generalize (l + q) % n = p at *
  have e : l + m + 1 = (p + r + 1) + n * (q + u) := by rw [hq, Nat.mul_add, Nat.mul_add, Nat.mul_comm n q, Nat.mul_comm n u]; omega
  rw [e] at d
  have d2 : n ∣ p + r + 1 := (Nat.dvd_add_iff_left (Nat.dvd_mul_right n _)).2 d
  obtain ⟨k, hk⟩ := d2
  have k1 : k = 1 ∨ k = 2 := by
    have a1 : k ≠ 0 := by rintro rfl; omega
    have a2 : k < 3 := by
      apply Nat.lt_of_not_le; intro h3
      have := Nat.mul_le_mul_left n h3
      omega
    omega
  rcases k1 with rfl | rfl
  · rw [if_pos (by omega), if_neg (by omega)]; omega
  · rw [if_neg (by omega), if_pos (by omega)]; omega

/-- ONE MOVE: the line at 'from' goes to where the gap was, all others stay -/
theorem slN_next {n l : Nat} (h : l < n) (m : Nat) : slN n (m + 1) l = if slN n m l = frN n m then gN n m else slN n m l := by
  rw [slN_eq h (m + 1)]
  have hle := slN_le (n := n) (by omega) m l
  have hne := slN_ne n m l
  have hn2 := slN_ne n (m + 1) l
  have hle2 := slN_le (n := n) (by omega) (m + 1) l
  rw [gN_next] at hn2
  rw [slN_eq h (m + 1)] at hn2 hle2
  have hs := slN_eq h m
  have hgl := gN_le n m
  have e0 : (l + (m + 1)) / n = (l + m) / n + (if n ∣ l + m + 1 then 1 else 0) := by rw [← Nat.add_assoc]; exact Nat.succ_div ..
  rw [e0] at hn2 hle2 ⊢
  have hx : (l + ((l + m) / n + if n ∣ l + m + 1 then 1 else 0)) % (n + 1) = ((l + (l + m) / n) % (n + 1) + if n ∣ l + m + 1 then 1 else 0) % (n + 1) := by
    rw [← Nat.add_assoc, Nat.mod_add_mod]
  rw [hx, ← hs] at hn2 hle2 ⊢
  by_cases c : slN n m l = frN n m
  · rw [if_pos c]
    by_cases d : n ∣ l + m + 1
    · rw [if_pos d, c]
      unfold frN
      by_cases g0 : gN n m = 0
      · rw [if_pos g0, g0, Nat.mod_self]
      · rw [if_neg g0, Nat.mod_eq_of_lt (by omega)]; omega
    · rw [if_neg d, Nat.add_zero, Nat.mod_eq_of_lt (by omega)] at hn2
      exact absurd c hn2
  · rw [if_neg c]
    by_cases d : n ∣ l + m + 1
    · exact absurd (slN_from h d) c
    · rw [if_neg d, Nat.add_zero, Nat.mod_eq_of_lt (by omega)]

/-- a line stays where it is but for each n-th move -/
theorem slN_stay {n l : Nat} (h : l < n) {m : Nat} (d : ¬ n ∣ l + m + 1) : slN n (m + 1) l = slN n m l := by
  have e0 : (l + (m + 1)) / n = (l + m) / n + (if n ∣ l + m + 1 then 1 else 0) := by rw [← Nat.add_assoc]; exact Nat.succ_div ..
  rw [if_neg d] at e0
  rw [slN_eq h, slN_eq h, e0]; rfl
theorem slN_turn {n l : Nat} (h : l < n) {m : Nat} (d : n ∣ l + m + 1) : slN n (m + 1) l ≠ slN n m l := by
  rw [slN_next h, if_pos (slN_from h d), slN_from h d]
  exact fun e => frN_ne (n := n) (by omega) m e.symm
/-- how often a line has moved, one move on -/
theorem moved_next (n l m k : Nat) : (l + (m + (k + 1))) / n = (l + (m + k)) / n + (if n ∣ l + (m + k) + 1 then 1 else 0) := by
  rw [← Nat.add_assoc m, ← Nat.add_assoc]; exact Nat.succ_div ..
/-- in n + 1 moves it moves once or twice -/
theorem moved_round {n : Nat} (hn : 0 < n) (l m : Nat) : (l + m) / n + 1 ≤ (l + (m + (n + 1))) / n ∧ (l + (m + (n + 1))) / n ≤ (l + m) / n + 2 := by
  have e : (l + (m + (n + 1))) / n = (l + m + 1) / n + 1 := by
    rw [show l + (m + (n + 1)) = l + m + 1 + n by omega, Nat.add_div_right _ hn]
  have e2 : (l + m + 1) / n = (l + m) / n + (if n ∣ l + m + 1 then 1 else 0) := Nat.succ_div ..
  rw [e, e2]; split <;> omega
/-- in n times as many all are where they were -/
theorem slN_whole {n l : Nat} (h : l < n) (m : Nat) : slN n (m + n * (n + 1)) l = slN n m l := by
  rw [slN_eq h, slN_eq h, ← Nat.add_assoc, Nat.add_mul_div_left _ _ (by omega), ← Nat.add_assoc, Nat.add_mod_right]
theorem gN_round (n m : Nat) : gN n (m + n + 1) = gN n m := by
  unfold gN; rw [Nat.add_assoc, Nat.add_mod_right]
end Go.Proofs.Ytjchmkgkibiadaa
