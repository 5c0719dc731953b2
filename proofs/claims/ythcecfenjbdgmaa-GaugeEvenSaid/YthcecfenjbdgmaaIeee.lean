/-
  Binary64 words in order: a word's sign and rung, the whole number that stands for it in the order of numbers ('key'), and that the model's comparison of two words is the comparison of their keys. Plain mathematics: no program is spoken of.
-/
import Derived.WalkLawsBesides
namespace Go.Proofs.Ythcecfenjbdgmaa.D
set_option maxRecDepth 100000
open Ieee

/-- the magnitude of a rung, in units of the least one -/
def val (r : Nat) : Nat := if r < 2 ^ 52 then r else (2 ^ 52 + r % 2 ^ 52) * 2 ^ (r / 2 ^ 52 - 1)

theorem val_lo {r : Nat} (h : 2 ^ 52 ≤ r) : 2 ^ 52 * 2 ^ (r / 2 ^ 52 - 1) ≤ val r := by
  unfold val
  rw [if_neg (by omega)]
  exact Nat.mul_le_mul_right _ (by omega)

theorem val_hi (r : Nat) : val r < 2 ^ 52 * 2 ^ (r / 2 ^ 52) := by
  unfold val
  split
  · rename_i h
    have : r / 2 ^ 52 = 0 := Nat.div_eq_of_lt h
    rw [this]; omega
  · rename_i h
    have h1 : 1 ≤ r / 2 ^ 52 := by omega
    have h2 : r % 2 ^ 52 < 2 ^ 52 := Nat.mod_lt _ (by decide)
    obtain ⟨k, hk⟩ : ∃ k, r / 2 ^ 52 = k + 1 := ⟨r / 2 ^ 52 - 1, by omega⟩
    rw [hk, Nat.add_sub_cancel, Nat.pow_succ]
    have := Nat.two_pow_pos k
    calc (2 ^ 52 + r % 2 ^ 52) * 2 ^ k < (2 ^ 52 * 2) * 2 ^ k := Nat.mul_lt_mul_of_pos_right (by omega) this
      _ = 2 ^ 52 * (2 ^ k * 2) := by rw [Nat.mul_assoc, Nat.mul_comm 2]

theorem val_lt {r s : Nat} (h : r < s) : val r < val s := by
  by_cases hs : s < 2 ^ 52
  · unfold val
    rw [if_pos hs, if_pos (by omega)]; exact h
  · by_cases hq : r / 2 ^ 52 < s / 2 ^ 52
    · refine Nat.lt_of_lt_of_le (val_hi r) (Nat.le_trans (Nat.mul_le_mul_left _ ?_) (val_lo (by omega)))
      exact Nat.pow_le_pow_right (by decide) (by omega)
    · have he : r / 2 ^ 52 = s / 2 ^ 52 := by
        have := Nat.div_le_div_right (c := 2 ^ 52) (Nat.le_of_lt h); omega
      unfold val
      rw [if_neg hs, if_neg (by omega), he]
      exact Nat.mul_lt_mul_of_pos_right (by omega) (Nat.two_pow_pos _)

theorem val_zero : val 0 = 0 := rfl

def inf : Nat := 9218868437227405312
/-- a word's rung, its sign, is it no number, its key -/
def rung (b : Nat) : Nat := b % 2 ^ 63
def sgn (b : Nat) : Bool := b / 2 ^ 63 % 2 == 1
def nan (b : Nat) : Bool := decide (inf < rung b)
def key (b : Nat) : Int := if sgn b then -(rung b : Int) else rung b

theorem weight : double.signWeight = 2 ^ 63 := rfl
theorem infr : double.infRung = inf := by decide
theorem bin : double.binade = 2 ^ 52 := rfl
theorem least : double.leastPlace = -1074 := by decide

/-- what is read of a word -/
theorem read_cases (b : Nat) :
    (rung b < inf ∧ ∃ m p, double.read b = .number (sgn b) m (-1074 + (p : Nat)) ∧ m * 2 ^ p = val (rung b)) ∨
    (rung b = inf ∧ double.read b = .infinity (sgn b)) ∨ (inf < rung b ∧ ∃ t, double.read b = .nan (sgn b) t) := by
  unfold Format.read
  simp only [weight, infr, bin, least]
  change (rung b < inf ∧ ∃ m p, (if rung b < 2 ^ 52 then _ else _) = _ ∧ _) ∨ _
  by_cases h1 : rung b < 2 ^ 52
  · refine .inl ⟨by unfold inf; omega, rung b, 0, ?_, ?_⟩
    · rw [if_pos h1]; rfl
    · unfold val; rw [if_pos h1]; omega
  · by_cases h2 : rung b < inf
    · refine .inl ⟨h2, 2 ^ 52 + rung b % 2 ^ 52, rung b / 2 ^ 52 - 1, ?_, ?_⟩
      · rw [if_neg h1]
        show (if rung b < inf then _ else _) = _
        rw [if_pos h2]; rfl
      · unfold val; rw [if_neg h1]
    · by_cases h3 : rung b = inf
      · refine .inr (.inl ⟨h3, ?_⟩)
        show (if rung b < 2 ^ 52 then _ else if rung b < inf then _ else if rung b = inf then _ else _) = _
        rw [if_neg h1, if_neg h2, if_pos h3]; rfl
      · refine .inr (.inr ⟨by omega, rung b - inf, ?_⟩)
        show (if rung b < 2 ^ 52 then _ else if rung b < inf then _ else if rung b = inf then _ else _) = _
        rw [if_neg h1, if_neg h2, if_neg h3]; rfl


theorem compare_mul (a b : Int) (c : Nat) : compare (a * (2 ^ c : Nat)) (b * (2 ^ c : Nat)) = compare a b := by
  have hc : (0 : Int) < (2 ^ c : Nat) := by exact_mod_cast Nat.two_pow_pos c
  simp only [compare, compareOfLessAndEq]
  by_cases h1 : a < b
  · rw [if_pos h1, if_pos (Int.mul_lt_mul_of_pos_right h1 hc)]
  · rw [if_neg h1, if_neg (fun h => h1 (Int.lt_of_mul_lt_mul_right h (Int.le_of_lt hc)))]
    by_cases h2 : a = b
    · rw [if_pos h2, if_pos (by rw [h2])]
    · rw [if_neg h2, if_neg (fun h => h2 (Int.eq_of_mul_eq_mul_right (Int.ne_of_gt hc) h))]

/-- the signed magnitude of a word -/
def sv (b : Nat) : Int := if sgn b then -(val (rung b) : Int) else val (rung b)

theorem signed_up (s : Bool) (m k c : Nat) : signed s m k * (2 ^ c : Nat) = if s then -((m * 2 ^ (k + c) : Nat) : Int) else ((m * 2 ^ (k + c) : Nat) : Int) := by
  unfold signed
  rw [Nat.shiftLeft_eq]
  have e : ((m * 2 ^ k : Nat) : Int) * ((2 ^ c : Nat) : Int) = ((m * 2 ^ (k + c) : Nat) : Int) := by
    rw [Nat.pow_add, ← Nat.mul_assoc]; push_cast; rfl
  cases s
  · simpa using e
  · simp only [if_true, Int.neg_mul]
    rw [← e]

theorem val_le {r s : Nat} : val r ≤ val s ↔ r ≤ s := by
  constructor
  · intro h; exact Nat.le_of_not_lt fun g => Nat.lt_irrefl _ (Nat.lt_of_lt_of_le (val_lt g) h)
  · intro h
    rcases Nat.lt_or_eq_of_le h with g | g
    · exact Nat.le_of_lt (val_lt g)
    · rw [g]; exact Nat.le_refl _

theorem cmp_lt {a b : Int} : compare a b = .lt ↔ a < b := by
  simp only [compare, compareOfLessAndEq]
  by_cases h : a < b
  · simp [h]
  · by_cases g : a = b
    · simp [g]
    · simp [h, g]
theorem cmp_eq {a b : Int} : compare a b = .eq ↔ a = b := by
  simp only [compare, compareOfLessAndEq]; split <;> simp_all
  omega
theorem cmp_gt {a b : Int} : compare a b = .gt ↔ b < a := by
  simp only [compare, compareOfLessAndEq]
  by_cases h : a < b
  · rw [if_pos h]; simp; omega
  · rw [if_neg h]; by_cases g : a = b
    · rw [if_pos g]; simp; omega
    · rw [if_neg g]; simp; omega

theorem cmp_congr {a b c d : Int} (h1 : a < b ↔ c < d) (h2 : b < a ↔ d < c) : compare a b = compare c d := by
  rcases Int.lt_trichotomy a b with h | h | h
  · rw [cmp_lt.2 h, cmp_lt.2 (h1.1 h)]
  · rw [cmp_eq.2 h, cmp_eq.2]
    have : ¬ c < d := fun g => by have := h1.2 g; omega
    have : ¬ d < c := fun g => by have := h2.2 g; omega
    omega
  · rw [cmp_gt.2 h, cmp_gt.2 (h2.1 h)]

theorem sv_lt (a b : Nat) : sv a < sv b ↔ key a < key b := by
  have h1 := @val_le (rung a) (rung b)
  have h2 := @val_le (rung b) (rung a)
  have h3 := @val_le (rung a) 0
  have h4 := @val_le (rung b) 0
  rw [val_zero] at h3 h4
  unfold sv key
  cases sgn a <;> cases sgn b <;> simp <;> omega

theorem compare_sv (a b : Nat) : compare (sv a) (sv b) = compare (key a) (key b) := cmp_congr (sv_lt a b) (sv_lt b a)

theorem order_key (a b : Nat) : double.order a b = if nan a || nan b then none else some (compare (key a) (key b)) := by
  unfold Format.order nan
  rcases read_cases a with ⟨ha, m, p, ea, va⟩ | ⟨ha, ea⟩ | ⟨ha, t, ea⟩
  · rcases read_cases b with ⟨hb, n, q, eb, vb⟩ | ⟨hb, eb⟩ | ⟨hb, t, eb⟩
    · rw [ea, eb]
      simp only [Datum.order, decide_eq_false (show ¬ inf < rung a by omega), decide_eq_false (show ¬ inf < rung b by omega), Bool.or_self, Bool.false_eq_true, if_false]
      congr 1
      rw [← compare_sv, ← compare_mul _ _ (min p q), signed_up, signed_up]
      have e1 : ((-1074 : Int) + (p : Int) - min (-1074 + (p : Int)) (-1074 + (q : Int))).toNat + min p q = p := by omega
      have e2 : ((-1074 : Int) + (q : Int) - min (-1074 + (p : Int)) (-1074 + (q : Int))).toNat + min p q = q := by omega
      rw [e1, e2, va, vb]; rfl
    · rw [ea, eb]
      simp only [Datum.order, decide_eq_false (show ¬ inf < rung a by omega), decide_eq_false (show ¬ inf < rung b by omega), Bool.or_self, Bool.false_eq_true, if_false]
      congr 1
      unfold key
      have : (0 : Int) < rung b := by rw [hb]; decide
      cases sgn a <;> cases hs : sgn b <;> simp <;> symm <;> first | (apply cmp_lt.2; omega) | (apply cmp_gt.2; omega)
    · rw [ea, eb]; simp [Datum.order, hb]
  · rcases read_cases b with ⟨hb, n, q, eb, vb⟩ | ⟨hb, eb⟩ | ⟨hb, t, eb⟩
    · rw [ea, eb]
      simp only [Datum.order, decide_eq_false (show ¬ inf < rung a by omega), decide_eq_false (show ¬ inf < rung b by omega), Bool.or_self, Bool.false_eq_true, if_false]
      congr 1
      unfold key
      have : (0 : Int) < rung a := by rw [ha]; decide
      cases hs : sgn a <;> cases sgn b <;> simp <;> symm <;> first | (apply cmp_lt.2; omega) | (apply cmp_gt.2; omega)
    · rw [ea, eb]
      simp only [Datum.order, decide_eq_false (show ¬ inf < rung a by omega), decide_eq_false (show ¬ inf < rung b by omega), Bool.or_self, Bool.false_eq_true, if_false]
      congr 1
      unfold key
      rw [ha, hb]
      cases hs : sgn a <;> cases sgn b <;> decide
    · rw [ea, eb]; simp [Datum.order, hb]
  · rw [ea]; simp [Datum.order, ha]

theorem key_bounds (b : Nat) : -(2 ^ 63 : Int) < key b ∧ key b < 2 ^ 63 := by
  have : rung b < 2 ^ 63 := Nat.mod_lt _ (by decide)
  unfold key; split <;> omega

/-- a word of two parts -/
theorem word_eq {b : Nat} (h : b < 2 ^ 64) : b = (if sgn b then 2 ^ 63 else 0) + rung b := by
  unfold sgn rung
  by_cases g : b / 2 ^ 63 % 2 = 1
  · simp [g]; omega
  · simp [g]; omega

/-- the order of all words: no number is last -/
def rk (b : Nat) : Int := if nan b then 9223372036854775807 else if sgn b then -1 - (rung b : Int) else (rung b : Int)

/-- three-way comparison -/
def cmp3 (x y : Int) : Int := if x < y then -1 else if y < x then 1 else 0

theorem rung_lt (b : Nat) : rung b < 9223372036854775808 := by unfold rung; omega
theorem rk_le (b : Nat) : rk b ≤ 9223372036854775807 := by
  have := rung_lt b
  unfold rk; split
  · omega
  · split <;> omega
theorem rk_lt {b : Nat} (h : nan b = false) : rk b ≤ 9218868437227405312 := by
  have : ¬ inf < rung b := by simpa [nan] using h
  unfold inf at this
  unfold rk; rw [h]; simp; split <;> omega
theorem rk_ge (b : Nat) : -9223372036854775808 ≤ rk b := by
  have := rung_lt b
  unfold rk; split
  · omega
  · split <;> omega
theorem ne_self (b : Nat) : (double.order b b != some .eq) = nan b := by
  rw [order_key]
  cases h : nan b <;> simp

theorem key_zero : key 0 = 0 := by decide
theorem nan_zero : nan 0 = false := by decide
/-- is it a nought? -/
theorem eq_zero {a : Nat} (h : nan a = false) : (double.order a 0 == some .eq) = decide (rung a = 0) := by
  rw [order_key, h, nan_zero, key_zero]
  by_cases g : rung a = 0
  · have : key a = 0 := by unfold key; rw [g]; split <;> rfl
    simp [g, this]
  · have : key a ≠ 0 := by unfold key; split <;> omega
    simp [g]
    exact this
theorem eq_zero_nan {a : Nat} (h : nan a = true) : (double.order a 0 == some .eq) = false := by rw [order_key, h]; rfl
/-- where not both are noughts the order is that of numbers -/
theorem lss_rk {a b : Nat} (ha : nan a = false) (hb : nan b = false) (hz : ¬ (rung a = 0 ∧ rung b = 0)) : (double.order a b == some .lt) = decide (rk a < rk b) := by
  rw [order_key, ha, hb, Bool.eq_iff_iff]
  simp only [Bool.or_self, Bool.false_eq_true, if_false, beq_iff_eq, Option.some.injEq, cmp_lt, decide_eq_true_eq]
  unfold key rk
  rw [ha, hb]
  cases sgn a <;> cases sgn b <;> simp <;> omega

end Go.Proofs.Ythcecfenjbdgmaa.D
