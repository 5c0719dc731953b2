/-
  How often each slot is written, when one line alone is Put: plain counting.
-/
import Derived.Test.YtjchmkgkibiadaaTnf
namespace Go.Proofs.Ytjchmkgkibiadaa

/-- of i numbers from y on, how many are at slot s, where each slot has N on end, and there are L slots -/
def cn (N L s y : Nat) : Nat → Nat
  | 0 => 0
  | i + 1 => cn N L s y i + if (y + i) / N % L = s then 1 else 0
theorem cn_shift (N L s y : Nat) : ∀ i, cn N L s y (i + 1) = (if y / N % L = s then 1 else 0) + cn N L s (y + 1) i
  | 0 => by simp [cn]
  | i + 1 => by
    rw [cn, cn_shift N L s y i, cn, show y + (i + 1) = y + 1 + i by omega]; omega
theorem cn_on {N : Nat} (hn : 0 < N) (L s y : Nat) : cn N L s (y + 1) (N * L) = cn N L s y (N * L) := by
  have h1 := cn_shift N L s y (N * L)
  rw [cn, Nat.add_mul_div_left _ _ hn, Nat.add_mod_right] at h1
  omega
theorem cn_any {N : Nat} (hn : 0 < N) (L s : Nat) : ∀ y, cn N L s y (N * L) = cn N L s 0 (N * L)
  | 0 => rfl
  | y + 1 => (cn_on hn L s y).trans (cn_any hn L s y)
theorem cn_zero {N L s : Nat} (hn : 0 < N) : ∀ i, i ≤ N * L → cn N L s 0 i ≤ min i (s * N + N) - s * N
  | 0, _ => by simp [cn]
  | i + 1, h => by
    have ih := cn_zero (L := L) (s := s) hn i (by omega)
    rw [cn, Nat.zero_add]
    have hq : i / N < L := by rw [Nat.div_lt_iff_lt_mul hn, Nat.mul_comm]; omega
    rw [Nat.mod_eq_of_lt hq]
    have e1 : i = N * (i / N) + i % N := (Nat.div_add_mod i N).symm
    have e2 : i % N < N := Nat.mod_lt _ hn
    by_cases c : i / N = s
    · rw [if_pos c]
      rw [c, Nat.mul_comm] at e1
      omega
    · rw [if_neg c]
      omega
theorem cn_whole {N : Nat} (hn : 0 < N) (L s y : Nat) : cn N L s y (N * L) ≤ N := by
  rw [cn_any hn]
  have := cn_zero (L := L) (s := s) hn _ (Nat.le_refl _)
  omega
theorem cn_add (N L s y a : Nat) : ∀ b, cn N L s y (a + b) = cn N L s y a + cn N L s (y + a) b
  | 0 => rfl
  | b + 1 => by rw [← Nat.add_assoc, cn, cn_add N L s y a b, cn, Nat.add_assoc y a b]; omega
theorem cn_rounds {N : Nat} (hn : 0 < N) (L s y : Nat) : ∀ r, cn N L s y (N * L * r) ≤ N * r
  | 0 => Nat.zero_le _
  | r + 1 => by
    rw [Nat.mul_succ, cn_add, Nat.mul_succ]
    exact Nat.add_le_add (cn_rounds hn L s y r) (cn_whole hn L s _)
theorem cn_mono (N L s y a b : Nat) : cn N L s y a ≤ cn N L s y (a + b) := by rw [cn_add]; omega
theorem cn_le {N : Nat} (hn : 0 < N) {L s y r i : Nat} (h : i ≤ N * L * r) : cn N L s y i ≤ N * r := by
  obtain ⟨b, hb⟩ : ∃ b, i + b = N * L * r := ⟨_, Nat.add_sub_cancel' h⟩
  exact Nat.le_trans (cn_mono N L s y i b) (hb ▸ cn_rounds hn L s y r)

/-- how often slot k is written in i Puts of line 0 -/
def wn (n per : Nat) : Nat → Nat → Nat
  | 0, _ => 0
  | i + 1, k => wn n per i k + wadd n per (i % per) (i / per) 0 k
theorem td_next {per : Nat} (h : 0 < per) (i : Nat) : i / per + td per (i % per) = (i + 1) / per := by
  have e := Nat.div_add_mod i per
  have hl := Nat.mod_lt i h
  unfold td
  rw [show (i + 1) / per = i / per + (if per ∣ i + 1 then 1 else 0) from Nat.succ_div ..]
  by_cases c : per ≤ i % per + 1
  · rw [if_pos c, if_pos]
    exact ⟨i / per + 1, by rw [Nat.mul_succ]; omega⟩
  · rw [if_neg c, if_neg]
    rintro ⟨q, hq⟩
    have h1 : i / per < q := by
      apply Nat.lt_of_not_le; intro h2
      have := Nat.mul_le_mul_left per h2
      omega
    have := Nat.mul_le_mul_left per h1
    rw [Nat.mul_succ] at this
    omega
theorem tp_next {per : Nat} (h : 0 < per) (i : Nat) : tp per (i % per) = (i + 1) % per := by
  have e := Nat.div_add_mod i per
  have hl := Nat.mod_lt i h
  have e2 := Nat.div_add_mod (i + 1) per
  have t := td_next h i
  unfold td at t
  unfold tp
  by_cases c : per ≤ i % per + 1
  · rw [if_pos c] at t ⊢
    rw [← t, Nat.mul_succ] at e2
    omega
  · rw [if_neg c] at t ⊢
    rw [Nat.add_zero] at t
    rw [← t] at e2
    omega
/-- the two kinds of writes counted -/
theorem wn_eq {n per k : Nat} (hp : 0 < per) (hn : 0 < n) (hk : k ≤ n) : ∀ i, wn n per i k = cn 1 (n + 1) (n - k) 0 (i / per) + cn (per * n) (n + 1) k 1 i
  | 0 => by simp [wn, cn]
  | i + 1 => by
    rw [wn, wn_eq hp hn hk i, cn, wadd, td_next hp, ← td_next hp i, slN_eq hn]
    have e0 : (0 + (0 + (i / per + td per (i % per))) / n) % (n + 1) = (1 + i) / (per * n) % (n + 1) := by
      rw [Nat.zero_add, Nat.zero_add, td_next hp, Nat.div_div_eq_div_mul, Nat.add_comm 1 i]
    rw [e0]
    have e1 : (if k = (1 + i) / (per * n) % (n + 1) then 1 else 0) = if (1 + i) / (per * n) % (n + 1) = k then 1 else 0 := by
      by_cases c : k = (1 + i) / (per * n) % (n + 1)
      · rw [if_pos c, if_pos c.symm]
      · rw [if_neg c, if_neg fun h => c h.symm]
    rw [e1]
    unfold td
    by_cases c : per ≤ i % per + 1
    · rw [if_pos c, cn, Nat.zero_add, Nat.div_one]
      have e2 : (if per ≤ i % per + 1 ∧ k = gN n (i / per) then 1 else 0) = if i / per % (n + 1) = n - k then 1 else 0 := by
        have hl : i / per % (n + 1) < n + 1 := Nat.mod_lt _ (by omega)
        unfold gN
        by_cases d : k = n - i / per % (n + 1)
        · rw [if_pos ⟨c, d⟩, if_pos (by omega)]
        · rw [if_neg (fun h => d h.2), if_neg (by omega)]
      rw [e2]; omega
    · rw [if_neg c, if_neg (fun h => c h.1)]; simp only [Nat.add_zero, Nat.zero_add]; omega
/-- the bound -/
theorem wn_le {n per k Q : Nat} (hp : 0 < per) (hn : 0 < n) (hk : k ≤ n) : wn n per Q k ≤ 2 * (Q / (per * n * (n + 1)) + 1) * (n + 1) * per + 2 * (Q / (per * n * (n + 1)) + 1) * n := by
  obtain ⟨D, hD⟩ : ∃ D, D = per * n * (n + 1) := ⟨_, rfl⟩
  have hD0 : 0 < D := by rw [hD]; exact Nat.mul_pos (Nat.mul_pos hp hn) (by omega)
  obtain ⟨r, hr⟩ : ∃ r, r = Q / D + 1 := ⟨_, rfl⟩
  have hQ : Q < D * r := by
    have e := Nat.div_add_mod Q D
    have := Nat.mod_lt Q hD0
    rw [hr, Nat.mul_succ]; omega
  rw [wn_eq hp hn hk, ← hD, ← hr]
  have b1 : cn 1 (n + 1) (n - k) 0 (Q / per) ≤ 1 * (n * r) := by
    refine cn_le (by decide) ?_
    have : Q / per < n * (n + 1) * r := by
      rw [Nat.div_lt_iff_lt_mul hp]
      have e : D * r = n * (n + 1) * r * per := by rw [hD]; simp only [Nat.mul_assoc, Nat.mul_comm, Nat.mul_left_comm]
      omega
    have e : 1 * (n + 1) * (n * r) = n * (n + 1) * r := by simp only [Nat.one_mul, Nat.mul_assoc, Nat.mul_comm, Nat.mul_left_comm]
    omega
  have b2 : cn (per * n) (n + 1) k 1 Q ≤ per * n * r := cn_le (Nat.mul_pos hp hn) (by rw [← hD]; omega)
  have e1 : 2 * r * (n + 1) * per = 2 * (per * n * r) + 2 * (r * per) := by
    rw [Nat.mul_succ, Nat.add_mul]
    have : 2 * r * n * per = 2 * (per * n * r) := by simp only [Nat.mul_assoc, Nat.mul_comm, Nat.mul_left_comm]
    have h2 : 2 * r * per = 2 * (r * per) := Nat.mul_assoc ..
    omega
  have e2 : 2 * r * n = 2 * (n * r) := by rw [Nat.mul_assoc, Nat.mul_comm r n]
  omega
/-- a sum over slots -/
def sm (f : Nat → Nat) : Nat → Nat
  | 0 => 0
  | k + 1 => sm f k + f k
theorem sm_one (x : Nat) : ∀ j, sm (fun k => if k = x then 1 else 0) j = if x < j then 1 else 0
  | 0 => by simp [sm]
  | j + 1 => by
    rw [sm, sm_one x j]
    by_cases c : x < j
    · rw [if_pos c, if_neg (by omega), if_pos (by omega)]
    · rw [if_neg c]
      by_cases d : j = x
      · rw [if_pos d, if_pos (by omega)]
      · rw [if_neg d, if_neg (by omega)]
theorem sm_add (f g : Nat → Nat) : ∀ j, sm (fun k => f k + g k) j = sm f j + sm g j
  | 0 => rfl
  | j + 1 => by simp only [sm, sm_add f g j]; omega
theorem sm_zero : ∀ j, sm (fun _ => 0) j = 0
  | 0 => rfl
  | j + 1 => by rw [sm, sm_zero j]
theorem wadd_sum {n per : Nat} (hn : 0 < n) (p M : Nat) : sm (wadd n per p M 0) (n + 1) = td per p + 1 := by
  have e : wadd n per p M 0 = fun k => (if per ≤ p + 1 ∧ k = gN n M then 1 else 0) + (if k = slN n (M + td per p) 0 then 1 else 0) := rfl
  rw [e, sm_add, sm_one, if_pos (slN_lt hn _ _)]
  unfold td
  by_cases c : per ≤ p + 1
  · have e2 : (fun k => if per ≤ p + 1 ∧ k = gN n M then 1 else 0) = fun k => if k = gN n M then 1 else 0 := by
      funext k; simp [c]
    rw [e2, sm_one, if_pos (gN_lt M), if_pos c]
  · have e2 : (fun k => if per ≤ p + 1 ∧ k = gN n M then 1 else 0) = fun _ => 0 := by
      funext k; simp [c]
    rw [e2, sm_zero, if_neg c]
theorem wn_sum {n per : Nat} (hp : 0 < per) (hn : 0 < n) : ∀ i, sm (wn n per i) (n + 1) = i + i / per
  | 0 => by
    have e : wn n per 0 = fun _ => 0 := by funext k; rfl
    rw [e, sm_zero]; simp
  | i + 1 => by
    have e : wn n per (i + 1) = fun k => wn n per i k + wadd n per (i % per) (i / per) 0 k := by funext k; rfl
    rw [e, sm_add, wn_sum hp hn i, wadd_sum hn, ← td_next hp i]; omega
theorem sm_le (f : Nat → Nat) {a b : Nat} (h : a ≤ b) : sm f a ≤ sm f b := by
  induction b with
  | zero => have : a = 0 := by omega
            rw [this]; exact Nat.le_refl _
  | succ b ih =>
    rcases Nat.lt_or_eq_of_le h with h | h
    · have := ih (by omega)
      rw [sm]; omega
    · rw [h]; exact Nat.le_refl _
end Go.Proofs.Ytjchmkgkibiadaa
