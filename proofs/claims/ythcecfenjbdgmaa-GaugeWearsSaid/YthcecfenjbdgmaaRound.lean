/-
  Rounding to a binary64 word keeps order: what can be written and is not above a number is not above the word nearest to it. So of whole numbers, quotients, sums. Plain mathematics.
-/
import Derived.Test.YthcecfenjbdgmaaExact
namespace Go.Proofs.Ythcecfenjbdgmaa.D
set_option maxRecDepth 100000
open Ieee

theorem val_step {t K : Nat} (h : 2 ^ 52 ≤ K ∨ t = 0) (h2 : K ≤ 2 ^ 53) : val (t * 2 ^ 52 + K) = K * 2 ^ t := by
  unfold val
  by_cases hs : t * 2 ^ 52 + K < 2 ^ 52
  · have h0 : t = 0 := by omega
    subst h0
    rw [if_pos hs, Nat.pow_zero]; omega
  · rw [if_neg hs]
    by_cases hK : K = 2 ^ 53
    · subst hK
      have d1 : (t * 2 ^ 52 + 2 ^ 53) / 2 ^ 52 - 1 = t + 1 := by omega
      have d2 : 2 ^ 52 + (t * 2 ^ 52 + 2 ^ 53) % 2 ^ 52 = 2 ^ 52 := by omega
      rw [d1, d2]
      have e : (2 : Nat) ^ (t + 1) = 2 ^ t * 2 := Nat.pow_succ ..
      rw [e]
      generalize (2 : Nat) ^ t = g
      omega
    · rcases h with h | h
      · have d1 : (t * 2 ^ 52 + K) / 2 ^ 52 - 1 = t := by omega
        have d2 : 2 ^ 52 + (t * 2 ^ 52 + K) % 2 ^ 52 = K := by omega
        rw [d1, d2]
      · subst h
        have d1 : (0 * 2 ^ 52 + K) / 2 ^ 52 - 1 = 0 := by omega
        have d2 : 2 ^ 52 + (0 * 2 ^ 52 + K) % 2 ^ 52 = K := by omega
        rw [d1, d2]

/-- cut to the nearest: the whole number below, or the one above where anything is left -/
theorem cut_cases (s : Bool) (n d : Nat) : Toward.even.cut s n d = n / 2 ^ d ∨ (Toward.even.cut s n d = n / 2 ^ d + 1 ∧ 0 < n % 2 ^ d) := by
  unfold Toward.cut
  simp only [Nat.shiftLeft_eq, Nat.one_mul]
  by_cases h : d ≤ n.log2 + 2
  · rw [Nat.min_eq_left h]
    have hp := Nat.two_pow_pos d
    generalize n % 2 ^ d = r
    generalize n / 2 ^ d = q
    generalize 2 ^ d = g at hp
    by_cases h0 : r = 0
    · left
      subst h0
      have e1 : decide (g < 2 * 0) = false := decide_eq_false (by omega)
      have e2 : (g == 2 * 0) = false := beq_eq_false_iff_ne.2 (by omega)
      rw [e1, e2]; rfl
    · cases (decide (g < 2 * r) || g == 2 * r && q % 2 == 1)
      · left; rfl
      · right; exact ⟨rfl, by omega⟩
  · left
    rw [Nat.min_eq_right (by omega)]
    have h1 : n < 2 ^ (n.log2 + 1) := Nat.lt_log2_self
    have h2 : 2 ^ (n.log2 + 2) = 2 ^ (n.log2 + 1) * 2 := Nat.pow_succ ..
    have h3 : 2 ^ (n.log2 + 2) ≤ 2 ^ d := Nat.pow_le_pow_right (by decide) (by omega)
    rw [Nat.div_eq_of_lt (by omega), Nat.div_eq_of_lt (by omega), Nat.mod_eq_of_lt (by omega), h2]
    generalize 2 ^ (n.log2 + 1) = g at h1
    have e1 : decide (g * 2 < 2 * n) = false := decide_eq_false (by omega)
    have e2 : (g * 2 == 2 * n) = false := beq_eq_false_iff_ne.2 (by omega)
    rw [e1, e2]; rfl

/-- the rung nearest to m * 2^c least units -/
def rn (m c : Nat) : Nat := if m = 0 then 0 else min ((c + m.log2 - 52) * 2 ^ 52 + Toward.even.cut false (m <<< (c - (c + m.log2 - 52))) (c + m.log2 - 52 - c)) inf

theorem cut_neg (s : Bool) (n d : Nat) : Toward.even.cut s n d = Toward.even.cut false n d := rfl

theorem nearest_rn (s : Bool) (m c : Nat) : double.nearest s m ((-1074 : Int) + (c : Int)) = double.word s (rn m c) := by
  unfold Format.nearest rn
  by_cases h : m = 0
  · rw [if_pos h, if_pos h]
  rw [if_neg h, if_neg h]
  simp only [bin, infr, least]
  obtain ⟨t, ht, ht2⟩ : ∃ t : Nat, max ((-1074 : Int) + (c : Int) + ((m.log2 : Nat) : Int) - (double.fractionBits : Int)) (-1074) = (-1074 : Int) + (t : Int) ∧ t = c + m.log2 - 52 := by
    refine ⟨c + m.log2 - 52, ?_, rfl⟩
    show max ((-1074 : Int) + (c : Int) + ((m.log2 : Nat) : Int) - 52) (-1074) = _
    omega
  rw [ht, ← ht2]
  have e1 : ((-1074 : Int) + (c : Int) - ((-1074 : Int) + (t : Int))).toNat = c - t := by omega
  have e2 : ((-1074 : Int) + (t : Int) - ((-1074 : Int) + (c : Int))).toNat = t - c := by omega
  have e3 : ((-1074 : Int) + (t : Int) - (-1074)).toNat = t := by omega
  rw [e1, e2, e3, cut_neg]

/-- what is kept, and what lies beside it -/
theorem rn_parts {m : Nat} (c : Nat) (h : m ≠ 0) : ∃ t K q : Nat, rn m c = min (t * 2 ^ 52 + K) inf ∧ (2 ^ 52 ≤ q ∨ t = 0) ∧ q < 2 ^ 53 ∧ q * 2 ^ t ≤ m * 2 ^ c ∧ m * 2 ^ c < (q + 1) * 2 ^ t ∧ (K = q ∨ (K = q + 1 ∧ q * 2 ^ t < m * 2 ^ c)) ∧ t = c + m.log2 - 52 := by
  have hl1 : 2 ^ m.log2 ≤ m := Nat.log2_self_le h
  have hl2 : m < 2 ^ (m.log2 + 1) := Nat.lt_log2_self
  obtain ⟨t, ht⟩ : ∃ t, t = c + m.log2 - 52 := ⟨_, rfl⟩
  unfold rn
  rw [if_neg h, ← ht, Nat.shiftLeft_eq]
  by_cases hct : t ≤ c
  · have hz : t - c = 0 := by omega
    have hm : m * 2 ^ (c - t) ≠ 0 := Nat.mul_ne_zero h (Nat.ne_of_gt (Nat.two_pow_pos _))
    rw [hz, cut_exact _ _ 0 (Nat.one_dvd _) hm, Nat.pow_zero, Nat.div_one]
    have e : m * 2 ^ (c - t) * 2 ^ t = m * 2 ^ c := by rw [Nat.mul_assoc, ← Nat.pow_add]; congr 2; omega
    have b2 : m * 2 ^ (c - t) < 2 ^ 53 := by
      calc m * 2 ^ (c - t) < 2 ^ (m.log2 + 1) * 2 ^ (c - t) := Nat.mul_lt_mul_of_pos_right hl2 (Nat.two_pow_pos _)
        _ = 2 ^ (m.log2 + 1 + (c - t)) := by rw [← Nat.pow_add]
        _ ≤ 2 ^ 53 := Nat.pow_le_pow_right (by decide) (by omega)
    refine ⟨t, _, m * 2 ^ (c - t), rfl, ?_, b2, by rw [e]; exact Nat.le_refl _, ?_, .inl rfl, rfl⟩
    · by_cases h0 : t = 0
      · exact .inr h0
      · left
        calc 2 ^ 52 = 2 ^ (m.log2 + (c - t)) := by congr 1; omega
          _ = 2 ^ m.log2 * 2 ^ (c - t) := Nat.pow_add ..
          _ ≤ m * 2 ^ (c - t) := Nat.mul_le_mul_right _ hl1
    · rw [← e]; exact Nat.mul_lt_mul_of_pos_right (Nat.lt_succ_self _) (Nat.two_pow_pos _)
  · have hz : c - t = 0 := by omega
    obtain ⟨d, hd⟩ : ∃ d, t - c = d := ⟨_, rfl⟩
    have hL : m.log2 = 52 + d := by omega
    rw [hz, hd, Nat.pow_zero, Nat.mul_one]
    have et : 2 ^ t = 2 ^ d * 2 ^ c := by rw [← Nat.pow_add]; congr 1; omega
    have hp := Nat.two_pow_pos d
    have hpc := Nat.two_pow_pos c
    have hdm := Nat.div_add_mod m (2 ^ d)
    have hmod := Nat.mod_lt m hp
    have b1 : 2 ^ 52 ≤ m / 2 ^ d := by
      rw [Nat.le_div_iff_mul_le hp, ← Nat.pow_add, ← hL]; exact hl1
    have b2 : m / 2 ^ d < 2 ^ 53 := by
      rw [Nat.div_lt_iff_lt_mul hp, ← Nat.pow_add]
      calc m < 2 ^ (m.log2 + 1) := hl2
        _ = 2 ^ (53 + d) := by congr 1; omega
    refine ⟨t, Toward.even.cut false m d, m / 2 ^ d, rfl, .inl b1, b2, ?_, ?_, ?_, rfl⟩
    · rw [et, ← Nat.mul_assoc]; exact Nat.mul_le_mul_right _ (by rw [Nat.mul_comm]; omega)
    · rw [et, ← Nat.mul_assoc]; exact Nat.mul_lt_mul_of_pos_right (by rw [Nat.mul_comm, Nat.mul_succ]; omega) hpc
    · rcases cut_cases false m d with g | ⟨g, g2⟩
      · exact .inl g
      · refine .inr ⟨g, ?_⟩
        rw [et, ← Nat.mul_assoc]; exact Nat.mul_lt_mul_of_pos_right (by rw [Nat.mul_comm]; omega) hpc

theorem rn_zero (c : Nat) : rn 0 c = 0 := by unfold rn; rw [if_pos rfl]
theorem rn_inf (m c : Nat) : rn m c ≤ inf := by
  unfold rn; split
  · exact Nat.zero_le _
  · exact Nat.min_le_right _ _

theorem rn_ge {m c s : Nat} (hs : s ≤ inf) (h : val s ≤ m * 2 ^ c) : s ≤ rn m c := by
  by_cases h0 : m = 0
  · subst h0
    rw [Nat.zero_mul] at h
    have : val s ≤ val 0 := h
    have := val_le.1 this
    rw [rn_zero]; exact this
  obtain ⟨t, K, q, e, h1, h2, h3, h4, h5, _⟩ := rn_parts c h0
  rw [e]
  refine Nat.le_min.2 ⟨?_, hs⟩
  refine Nat.le_of_not_lt fun g => ?_
  have g2 : t * 2 ^ 52 + (q + 1) ≤ s := by omega
  have := val_le.2 g2
  rw [val_step (by omega) (by omega)] at this
  exact Nat.lt_irrefl _ (Nat.lt_of_lt_of_le h4 (Nat.le_trans this h))

theorem rn_le {m c s : Nat} (h : m * 2 ^ c ≤ val s) : rn m c ≤ s := by
  by_cases h0 : m = 0
  · subst h0; rw [rn_zero]; exact Nat.zero_le _
  obtain ⟨t, K, q, e, h1, h2, h3, h4, h5, _⟩ := rn_parts c h0
  rw [e]
  refine Nat.le_trans (Nat.min_le_left _ _) ?_
  have hq := val_step h1 (by omega : q ≤ 2 ^ 53)
  rcases h5 with rfl | ⟨rfl, h6⟩
  · exact val_le.1 (by rw [hq]; exact Nat.le_trans h3 h)
  · refine Nat.le_of_not_lt fun g => ?_
    have g2 : s ≤ t * 2 ^ 52 + q := by omega
    have := val_le.2 g2
    rw [hq] at this
    exact Nat.lt_irrefl _ (Nat.lt_of_lt_of_le h6 (Nat.le_trans h this))

theorem val_inj {r s : Nat} (h : val r = val s) : r = s := Nat.le_antisymm (val_le.1 (Nat.le_of_eq h)) (val_le.1 (Nat.le_of_eq h.symm))
theorem rn_eq {m c s : Nat} (hs : s ≤ inf) (h : m * 2 ^ c = val s) : rn m c = s := Nat.le_antisymm (rn_le (Nat.le_of_eq h)) (rn_ge hs (Nat.le_of_eq h.symm))

/-- one place up -/
theorem rn_up {m c : Nat} (h : m ≠ 0) (hc : 52 ≤ c + m.log2) (hi : rn m c + 2 ^ 52 ≤ inf) : rn m (c + 1) = rn m c + 2 ^ 52 := by
  unfold rn at hi ⊢
  rw [if_neg h] at hi ⊢
  rw [if_neg h]
  have e1 : c + 1 + m.log2 - 52 = c + m.log2 - 52 + 1 := by omega
  have e2 : c + 1 - (c + m.log2 - 52 + 1) = c - (c + m.log2 - 52) := by omega
  have e3 : c + m.log2 - 52 + 1 - (c + 1) = c + m.log2 - 52 - c := by omega
  rw [e1, e2, e3]
  generalize Toward.even.cut false (m <<< (c - (c + m.log2 - 52))) (c + m.log2 - 52 - c) = K at hi ⊢
  generalize c + m.log2 - 52 = t at hi ⊢
  unfold inf at *
  omega

/-- twice as large, and more -/
theorem val_up {r : Nat} (h : 2 ^ 52 ≤ r) (k : Nat) : val (r + k * 2 ^ 52) = val r * 2 ^ k := by
  unfold val
  rw [if_neg (by omega), if_neg (by omega)]
  have e1 : (r + k * 2 ^ 52) % 2 ^ 52 = r % 2 ^ 52 := by omega
  have e2 : (r + k * 2 ^ 52) / 2 ^ 52 - 1 = r / 2 ^ 52 - 1 + k := by omega
  rw [e1, e2, Nat.pow_add, Nat.mul_assoc]

/-- words of numbers that are neither too great nor too small -/
def mid (b : Nat) : Prop := 600 * 2 ^ 52 ≤ b ∧ b < 1500 * 2 ^ 52
theorem rung_small {b : Nat} (h : b < 2 ^ 63) : rung b = b := by unfold rung; omega
theorem sgn_small {b : Nat} (h : b < 2 ^ 63) : sgn b = false := by unfold sgn; simp; omega
theorem nan_small {b : Nat} (h : b ≤ inf) : nan b = false := by unfold nan; unfold inf at *; rw [rung_small (by omega)]; simp; omega
theorem key_small {b : Nat} (h : b < 2 ^ 63) : key b = (b : Int) := by unfold key; rw [sgn_small h, rung_small h]; rfl

theorem read_mid {b : Nat} (h : mid b) : double.read b = .number false (2 ^ 52 + b % 2 ^ 52) ((-1074 : Int) + ((b / 2 ^ 52 - 1 : Nat) : Int)) := by
  obtain ⟨h1, h2⟩ := h
  have h0 : b < 2 ^ 63 := by omega
  have hr := rung_small h0
  have hs := sgn_small h0
  unfold Format.read
  simp only [weight, infr, bin, least]
  change (if rung b < 2 ^ 52 then Datum.number (sgn b) (rung b) (-1074) else if rung b < inf then Datum.number (sgn b) (2 ^ 52 + rung b % 2 ^ 52) ((-1074 : Int) + ((rung b / 2 ^ 52 - 1 : Nat) : Int)) else _) = _
  rw [hr, hs, if_neg (by omega), if_pos (by unfold inf; omega)]
theorem val_mid {b : Nat} (h : mid b) : val b = (2 ^ 52 + b % 2 ^ 52) * 2 ^ (b / 2 ^ 52 - 1) := by
  unfold val; unfold mid at h; rw [if_neg (by omega)]
theorem log2_sig (x : Nat) (h : x < 2 ^ 52) : (2 ^ 52 + x).log2 = 52 := (Nat.log2_eq_iff (by omega)).2 ⟨by omega, by omega⟩

/-- a quotient's digits, with one that tells whether anything is left, and its place -/
def qm (a b : Nat) : Nat := 2 * ((2 ^ 52 + a % 2 ^ 52) * 2 ^ 54 / (2 ^ 52 + b % 2 ^ 52)) + ((2 ^ 52 + a % 2 ^ 52) * 2 ^ 54 % (2 ^ 52 + b % 2 ^ 52) != 0).toNat
def qc (a b : Nat) : Nat := a / 2 ^ 52 + 1019 - b / 2 ^ 52
def qr (a b : Nat) : Nat := rn (qm a b) (qc a b)

theorem word_false (r : Nat) : double.word false r = r := by unfold Format.word; simp
theorem quot_num (m n : Nat) (i j : Int) (hm : m.log2 = 52) (hn : n.log2 = 52) (h0 : n ≠ 0) :
    Datum.quotient 54 (.number false m i) (.number false n j) = some (.number false (2 * (m * 2 ^ 54 / n) + (m * 2 ^ 54 % n != 0).toNat) (i - j - ((54 : Nat) : Int) - 1)) := by
  simp only [Datum.quotient, hm, hn, Nat.shiftLeft_eq, Bool.xor_false]
  rw [if_neg h0]
theorem div_mid {a b : Nat} (ha : mid a) (hb : mid b) : double.div a b = some (qr a b) := by
  have e0 : double.fractionBits + 2 = 54 := rfl
  unfold Format.div
  rw [read_mid ha, read_mid hb, e0, quot_num _ _ _ _ (log2_sig _ (Nat.mod_lt _ (by decide))) (log2_sig _ (Nat.mod_lt _ (by decide))) (by omega)]
  have e2 : (-1074 : Int) + ((a / 2 ^ 52 - 1 : Nat) : Int) - ((-1074 : Int) + ((b / 2 ^ 52 - 1 : Nat) : Int)) - ((54 : Nat) : Int) - 1 = (-1074 : Int) + ((qc a b : Nat) : Int) := by
    unfold mid at ha hb
    unfold qc; omega
  rw [e2, Option.map_some]
  unfold Format.write
  simp only
  rw [nearest_rn, word_false]
  unfold qr qm
  exact rfl

theorem qm_big (a b : Nat) : 2 ^ 54 ≤ qm a b := by
  unfold qm
  have h1 : a % 2 ^ 52 < 2 ^ 52 := Nat.mod_lt _ (by decide)
  have h2 : b % 2 ^ 52 < 2 ^ 52 := Nat.mod_lt _ (by decide)
  have : 2 ^ 53 ≤ (2 ^ 52 + a % 2 ^ 52) * 2 ^ 54 / (2 ^ 52 + b % 2 ^ 52) := by
    rw [Nat.le_div_iff_mul_le (by omega)]; omega
  omega
theorem qm_small (a b : Nat) : qm a b < 2 ^ 57 := by
  unfold qm
  have h1 : a % 2 ^ 52 < 2 ^ 52 := Nat.mod_lt _ (by decide)
  have h2 : b % 2 ^ 52 < 2 ^ 52 := Nat.mod_lt _ (by decide)
  have h3 : (2 ^ 52 + a % 2 ^ 52) * 2 ^ 54 / (2 ^ 52 + b % 2 ^ 52) < 2 ^ 55 := by
    rw [Nat.div_lt_iff_lt_mul (by omega)]; omega
  have h4 : ∀ x : Bool, x.toNat ≤ 1 := by decide
  have := h4 ((2 ^ 52 + a % 2 ^ 52) * 2 ^ 54 % (2 ^ 52 + b % 2 ^ 52) != 0)
  omega

/-- the quotient's digits against a multiple of the place above the last -/
theorem qm_le_iff (a b X : Nat) : 2 * X ≤ qm a b ↔ X * (2 ^ 52 + b % 2 ^ 52) ≤ (2 ^ 52 + a % 2 ^ 52) * 2 ^ 54 := by
  unfold qm
  have hn : 0 < 2 ^ 52 + b % 2 ^ 52 := by omega
  generalize (2 ^ 52 + a % 2 ^ 52) * 2 ^ 54 = D
  generalize 2 ^ 52 + b % 2 ^ 52 = n at hn
  have h4 : ∀ x : Bool, x.toNat ≤ 1 := by decide
  have := h4 (D % n != 0)
  rw [← Nat.le_div_iff_mul_le hn]
  omega
theorem qm_ge_iff (a b X : Nat) : qm a b ≤ 2 * X ↔ (2 ^ 52 + a % 2 ^ 52) * 2 ^ 54 ≤ X * (2 ^ 52 + b % 2 ^ 52) := by
  unfold qm
  have hn : 0 < 2 ^ 52 + b % 2 ^ 52 := by omega
  generalize (2 ^ 52 + a % 2 ^ 52) * 2 ^ 54 = D
  generalize 2 ^ 52 + b % 2 ^ 52 = n at hn
  have hdm := Nat.div_add_mod D n
  have hm := Nat.mod_lt D hn
  by_cases h0 : D % n = 0
  · rw [h0]
    rw [h0, Nat.add_zero] at hdm
    have e : ((0 : Nat) != 0).toNat = 0 := rfl
    rw [e]
    constructor
    · intro h; rw [← hdm, Nat.mul_comm]; exact Nat.mul_le_mul_right _ (by omega)
    · intro h
      have : D / n * n ≤ X * n := by rw [Nat.mul_comm, hdm]; exact h
      have := Nat.le_of_mul_le_mul_right this hn
      omega
  · have e : (D % n != 0).toNat = 1 := by
      have : (D % n != 0) = true := by simpa using h0
      rw [this]; rfl
    rw [e]
    constructor
    · intro h
      have : (D / n + 1) * n ≤ X * n := Nat.mul_le_mul_right _ (by omega)
      have e2 : (D / n + 1) * n = n * (D / n) + n := by rw [Nat.mul_comm, Nat.mul_succ]
      omega
    · intro h
      have e2 : (D / n) * n = n * (D / n) := Nat.mul_comm ..
      have : D / n < X := by
        refine Nat.lt_of_not_le fun g => ?_
        have := Nat.mul_le_mul_right n g
        omega
      omega

theorem pow_split {x y z : Nat} (h : x = y + z) : 2 ^ x = 2 ^ y * 2 ^ z := by rw [h, Nat.pow_add]

/-- a rung's magnitude is a multiple of the place above a quotient's last, or far below the quotient -/
theorem val_place (s c : Nat) : (∃ X, val s = X * 2 ^ (c + 1)) ∨ val s < 2 ^ 53 * 2 ^ c := by
  by_cases h : c + 2 ≤ s / 2 ^ 52
  · left
    unfold val
    have h1 : ¬ s < 2 ^ 52 := by omega
    rw [if_neg h1]
    refine ⟨(2 ^ 52 + s % 2 ^ 52) * 2 ^ (s / 2 ^ 52 - 1 - (c + 1)), ?_⟩
    rw [Nat.mul_assoc, ← Nat.pow_add]; congr 2; omega
  · right
    refine Nat.lt_of_lt_of_le (val_hi s) ?_
    have : 2 ^ (s / 2 ^ 52) ≤ 2 ^ (c + 1) := Nat.pow_le_pow_right (by decide) (by omega)
    calc 2 ^ 52 * 2 ^ (s / 2 ^ 52) ≤ 2 ^ 52 * 2 ^ (c + 1) := Nat.mul_le_mul_left _ this
      _ = 2 ^ 53 * 2 ^ c := by rw [← Nat.pow_add, ← Nat.pow_add]; congr 1; omega

theorem quo_scale {a b X : Nat} (ha : mid a) (hb : mid b) :
    (X * 2 ^ (qc a b + 1) * val b ≤ val a * 2 ^ lp ↔ X * (2 ^ 52 + b % 2 ^ 52) ≤ (2 ^ 52 + a % 2 ^ 52) * 2 ^ 54) ∧
    (val a * 2 ^ lp ≤ X * 2 ^ (qc a b + 1) * val b ↔ (2 ^ 52 + a % 2 ^ 52) * 2 ^ 54 ≤ X * (2 ^ 52 + b % 2 ^ 52)) := by
  have hc : a / 2 ^ 52 - 1 + lp = 54 + (qc a b + 1 + (b / 2 ^ 52 - 1)) := by
    have := lp_eq
    unfold mid at ha hb; unfold qc; omega
  rw [val_mid ha, val_mid hb]
  generalize qc a b = c at hc
  generalize 2 ^ 52 + a % 2 ^ 52 = m
  generalize 2 ^ 52 + b % 2 ^ 52 = n
  generalize a / 2 ^ 52 - 1 = i at hc
  generalize b / 2 ^ 52 - 1 = j at hc
  have e1 : m * 2 ^ i * 2 ^ lp = m * 2 ^ 54 * 2 ^ (c + 1 + j) := by
    rw [Nat.mul_assoc, Nat.mul_assoc, ← Nat.pow_add, ← Nat.pow_add, hc]
  have e2 : X * 2 ^ (c + 1) * (n * 2 ^ j) = X * n * 2 ^ (c + 1 + j) := by
    rw [Nat.pow_add _ (c + 1) j]; ac_rfl
  rw [e1, e2]
  have hp := Nat.two_pow_pos (c + 1 + j)
  exact ⟨⟨fun h => Nat.le_of_mul_le_mul_right h hp, fun h => Nat.mul_le_mul_right _ h⟩, ⟨fun h => Nat.le_of_mul_le_mul_right h hp, fun h => Nat.mul_le_mul_right _ h⟩⟩

theorem qr_ge {a b s : Nat} (ha : mid a) (hb : mid b) (hs : s ≤ inf) (h : val s * val b ≤ val a * 2 ^ lp) : s ≤ qr a b := by
  unfold qr
  refine rn_ge hs ?_
  rcases val_place s (qc a b) with ⟨X, hX⟩ | hX
  · rw [hX] at h ⊢
    have := (qm_le_iff a b X).2 (((quo_scale ha hb).1).1 h)
    rw [Nat.pow_succ]
    calc X * (2 ^ qc a b * 2) = 2 * X * 2 ^ qc a b := by ac_rfl
      _ ≤ _ := Nat.mul_le_mul_right _ this
  · have := qm_big a b
    refine Nat.le_trans (Nat.le_of_lt hX) (Nat.mul_le_mul_right _ (by omega))

theorem qr_le {a b s : Nat} (ha : mid a) (hb : mid b) (h : val a * 2 ^ lp ≤ val s * val b) : qr a b ≤ s := by
  unfold qr
  refine rn_le ?_
  rcases val_place s (qc a b) with ⟨X, hX⟩ | hX
  · rw [hX] at h ⊢
    have := (qm_ge_iff a b X).2 (((quo_scale ha hb).2).1 h)
    rw [Nat.pow_succ]
    calc qm a b * 2 ^ qc a b ≤ 2 * X * 2 ^ qc a b := Nat.mul_le_mul_right _ this
      _ = X * (2 ^ qc a b * 2) := by ac_rfl
  · exfalso
    -- the quotient is at least 2^53 of the place above the last
    have h1 : 2 ^ 53 * 2 ^ (qc a b + 1) * val b ≤ val a * 2 ^ lp := ((quo_scale ha hb).1).2 (by
      have := (qm_le_iff a b (2 ^ 53)).1 (by have := qm_big a b; omega)
      exact this)
    have hb0 : 0 < val b := by rw [val_mid hb]; exact Nat.mul_pos (by omega) (Nat.two_pow_pos _)
    have h2 := Nat.le_of_mul_le_mul_right (Nat.le_trans h1 h) hb0
    have h3 : 2 ^ 53 * 2 ^ qc a b ≤ 2 ^ 53 * 2 ^ (qc a b + 1) := Nat.mul_le_mul_left _ (Nat.pow_le_pow_right (by decide) (by omega))
    exact Nat.lt_irrefl _ (Nat.lt_of_lt_of_le hX (Nat.le_trans h3 h2))

end Go.Proofs.Ythcecfenjbdgmaa.D
