/-
  Binary64 words: what is cut off towards nought, which whole number a word stands for, and which word stands for a whole number up to 2^53. Plain mathematics.
-/
import Derived.Test.YthcecfenjbdgmaaIeee
namespace Go.Proofs.Ythcecfenjbdgmaa.D
set_option maxRecDepth 100000
open Ieee

/-- the least unit's place, behind a name: its power is never to be worked out -/
def lp : Nat := 1074
theorem lp_eq : lp = 1074 := rfl

theorem cut_zero (s : Bool) (n d : Nat) : Toward.zero.cut s n d = n / 2 ^ d := by
  unfold Toward.cut
  simp only [Bool.toNat_false, Nat.add_zero, Nat.shiftLeft_eq, Nat.one_mul]
  by_cases h : d ≤ n.log2 + 2
  · rw [Nat.min_eq_left h]
  · rw [Nat.min_eq_right (by omega)]
    have h1 : n < 2 ^ (n.log2 + 1) := Nat.lt_log2_self
    have h2 : 2 ^ (n.log2 + 1) ≤ 2 ^ (n.log2 + 2) := Nat.pow_le_pow_right (by decide) (by omega)
    have h3 : 2 ^ (n.log2 + 2) ≤ 2 ^ d := Nat.pow_le_pow_right (by decide) (by omega)
    rw [Nat.div_eq_of_lt (by omega), Nat.div_eq_of_lt (by omega)]

/-- the whole number below a magnitude of that many least units -/
theorem whole_of (m p : Nat) : (m <<< ((-1074 : Int) + (p : Int)).toNat) / 2 ^ (-((-1074 : Int) + (p : Int))).toNat = m * 2 ^ p / 2 ^ lp := by
  have hs := lp_eq
  rw [Nat.shiftLeft_eq]
  by_cases h : 1074 ≤ p
  · have e1 : ((-1074 : Int) + (p : Int)).toNat = p - lp := by omega
    have e2 : (-((-1074 : Int) + (p : Int))).toNat = 0 := by omega
    rw [e1, e2, Nat.pow_zero, Nat.div_one]
    have e : p = (p - lp) + lp := by omega
    have e3 : m * 2 ^ p = m * 2 ^ (p - lp) * 2 ^ lp := by rw [Nat.mul_assoc, ← Nat.pow_add, ← e]
    rw [e3, Nat.mul_div_cancel _ (Nat.two_pow_pos _)]
  · have e1 : ((-1074 : Int) + (p : Int)).toNat = 0 := by omega
    have e2 : (-((-1074 : Int) + (p : Int))).toNat = lp - p := by omega
    rw [e1, e2, Nat.pow_zero, Nat.mul_one]
    have e3 : (2 : Nat) ^ lp = 2 ^ (lp - p) * 2 ^ p := by rw [← Nat.pow_add]; congr 1; omega
    rw [e3, Nat.mul_div_mul_right _ _ (Nat.two_pow_pos _)]

/-- the whole number that is left of a word, cut towards nought -/
def flr (b : Nat) : Nat := val (rung b) / 2 ^ lp
def truncW (b : Nat) : Nat := if rung b < inf then double.nearest (sgn b) (flr b) 0 else double.write (.infinity (sgn b))

theorem integral_of {b : Nat} (h : rung b < inf) : (double.read b).integral .zero = .number (sgn b) (flr b) 0 := by
  rcases read_cases b with ⟨_, m, p, e, v⟩ | ⟨hb, _⟩ | ⟨hb, _⟩
  · rw [e]
    simp only [Datum.integral]
    rw [cut_zero, whole_of, v]; rfl
  · omega
  · omega

theorem toInt_of {b : Nat} (h : rung b < inf) : (double.read b).toInt .zero = some (signed (sgn b) (flr b) 0) := by
  unfold Datum.toInt
  rw [integral_of h]

theorem trunc_of {b : Nat} (h : nan b = false) : double.write ((double.read b).integral .zero) = truncW b := by
  unfold truncW
  by_cases hb : rung b < inf
  · rw [integral_of hb, if_pos hb]; rfl
  · rw [if_neg hb]
    rcases read_cases b with ⟨g, _⟩ | ⟨_, e⟩ | ⟨g, _⟩
    · omega
    · rw [e]; rfl
    · exact absurd h (by simp [nan, g])

def top53 : Nat := 4845873199050653696
theorem val_top : val top53 = 2 ^ 53 * 2 ^ lp := by
  have h1 : top53 % 2 ^ 52 = 0 := by decide
  have h2 : top53 / 2 ^ 52 - 1 = 1 + lp := by decide
  have h3 : ¬ top53 < 2 ^ 52 := by decide
  unfold val
  rw [if_neg h3, h1, h2, Nat.pow_add, ← Nat.mul_assoc]
theorem flr_le {b : Nat} (h : rung b ≤ top53) : flr b ≤ 2 ^ 53 := by
  unfold flr
  have h1 : val (rung b) ≤ 2 ^ 53 * 2 ^ lp := by rw [← val_top]; exact val_le.2 h
  exact (Nat.div_le_iff_le_mul_add_pred (Nat.two_pow_pos _)).2 (by rw [Nat.mul_comm]; exact Nat.le_trans h1 (Nat.le_add_right _ _))

theorem signed_zero (s : Bool) (n : Nat) : signed s n 0 = if s then -(n : Int) else n := by unfold signed; simp

theorem rung_word (s : Bool) (r : Nat) (h : r < 2 ^ 63) : rung (double.word s r) = r := by
  unfold Format.word rung; rw [weight]; cases s <;> simp <;> omega
theorem sgn_word (s : Bool) (r : Nat) (h : r < 2 ^ 63) : sgn (double.word s r) = s := by
  unfold Format.word sgn; rw [weight]; cases s <;> simp <;> omega
theorem word_split {b : Nat} (h : b < 2 ^ 64) : double.word (sgn b) (rung b) = b := by
  conv => rhs; rw [word_eq h]
  unfold Format.word; rw [weight]
  cases sgn b <;> simp

/-- a whole number up to 2^53 has a word of its own -/
theorem nearest_nat (s : Bool) (n : Nat) (h : n ≤ 2 ^ 53) : ∃ r, double.nearest s n 0 = double.word s r ∧ r < inf ∧ val r = n * 2 ^ lp := by
  by_cases h0 : n = 0
  · subst h0
    exact ⟨0, rfl, by decide, by rw [val_zero, Nat.zero_mul]⟩
  by_cases h1 : n = 2 ^ 53
  · subst h1
    refine ⟨top53, ?_, by decide, val_top⟩
    cases s <;> decide +kernel
  have hlt : n < 2 ^ 53 := by omega
  have hl1 : 2 ^ n.log2 ≤ n := Nat.log2_self_le h0
  have hl2 : n < 2 ^ (n.log2 + 1) := Nat.lt_log2_self
  have hl : n.log2 ≤ 52 := by
    have : n.log2 < 53 := (Nat.log2_lt h0).2 hlt
    omega
  unfold Format.nearest
  rw [if_neg h0]
  have e1 : max ((0 : Int) + (n.log2 : Int) - (double.fractionBits : Int)) double.leastPlace = (n.log2 : Int) - 52 := by
    rw [least]; show max ((0 : Int) + (n.log2 : Int) - 52) (-1074) = _; omega
  simp only [e1]
  have e2 : ((0 : Int) - ((n.log2 : Int) - 52)).toNat = 52 - n.log2 := by omega
  have e3 : ((n.log2 : Int) - 52 - 0).toNat = 0 := by omega
  rw [e2, e3, bin, infr, least]
  have e4 : ((n.log2 : Int) - 52 - (-1074)).toNat = n.log2 + 1022 := by omega
  rw [e4, Nat.shiftLeft_eq]
  have hk : Toward.even.cut s (n * 2 ^ (52 - n.log2)) 0 = n * 2 ^ (52 - n.log2) := by
    unfold Toward.cut
    simp [Nat.mod_one]
  rw [hk]
  have b1 : 2 ^ 52 ≤ n * 2 ^ (52 - n.log2) := by
    calc 2 ^ 52 = 2 ^ n.log2 * 2 ^ (52 - n.log2) := by rw [← Nat.pow_add]; congr 1; omega
      _ ≤ _ := Nat.mul_le_mul_right _ hl1
  have b2 : n * 2 ^ (52 - n.log2) < 2 ^ 53 := by
    calc n * 2 ^ (52 - n.log2) < 2 ^ (n.log2 + 1) * 2 ^ (52 - n.log2) := Nat.mul_lt_mul_of_pos_right hl2 (Nat.two_pow_pos _)
      _ = 2 ^ 53 := by rw [← Nat.pow_add]; congr 1; omega
  generalize hM : n * 2 ^ (52 - n.log2) = M at b1 b2
  have hr : (n.log2 + 1022) * 2 ^ 52 + M < inf := by unfold inf; omega
  refine ⟨(n.log2 + 1022) * 2 ^ 52 + M, by rw [Nat.min_eq_left (Nat.le_of_lt hr)], hr, ?_⟩
  unfold val
  rw [if_neg (by omega)]
  have d1 : ((n.log2 + 1022) * 2 ^ 52 + M) / 2 ^ 52 = n.log2 + 1023 := by omega
  have d2 : ((n.log2 + 1022) * 2 ^ 52 + M) % 2 ^ 52 = M - 2 ^ 52 := by omega
  rw [d1, d2]
  have d3 : 2 ^ 52 + (M - 2 ^ 52) = M := by omega
  have d4 : 52 - n.log2 + (n.log2 + 1023 - 1) = lp := by have := lp_eq; omega
  rw [d3, ← hM, Nat.mul_assoc, ← Nat.pow_add, d4]

end Go.Proofs.Ythcecfenjbdgmaa.D
