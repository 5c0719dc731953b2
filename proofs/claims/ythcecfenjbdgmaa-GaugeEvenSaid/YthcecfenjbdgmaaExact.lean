/-
  A number that a word can stand for is written as that word: n * 2^k at any place, n below 2^53. Plain mathematics.
-/
import Derived.Test.YthcecfenjbdgmaaFloat
namespace Go.Proofs.Ythcecfenjbdgmaa.D
set_option maxRecDepth 100000
open Ieee

theorem cut_exact (s : Bool) (m d : Nat) (h : 2 ^ d ∣ m) (h0 : m ≠ 0) : Toward.even.cut s m d = m / 2 ^ d := by
  have hd : d ≤ m.log2 := by
    obtain ⟨c, rfl⟩ := h
    have hc : c ≠ 0 := by intro hc; exact h0 (by rw [hc, Nat.mul_zero])
    exact (Nat.le_log2 h0).2 (Nat.le_mul_of_pos_right _ (Nat.pos_of_ne_zero hc))
  unfold Toward.cut
  simp only [Nat.shiftLeft_eq, Nat.one_mul]
  rw [Nat.min_eq_left (by omega), Nat.mod_eq_zero_of_dvd h]
  have hp := Nat.two_pow_pos d
  have e1 : decide (2 ^ d < 2 * 0) = false := decide_eq_false (by omega)
  have e2 : (2 ^ d == 2 * 0) = false := beq_eq_false_iff_ne.2 (by omega)
  rw [e1, e2]
  rfl

theorem log2_mul_pow {n : Nat} (h : n ≠ 0) (k : Nat) : (n * 2 ^ k).log2 = n.log2 + k := by
  have hm : n * 2 ^ k ≠ 0 := Nat.mul_ne_zero h (Nat.ne_of_gt (Nat.two_pow_pos k))
  have h1 := Nat.log2_self_le h
  have h2 := Nat.lt_log2_self (n := n)
  refine (Nat.log2_eq_iff hm).2 ⟨?_, ?_⟩
  · rw [Nat.pow_add]; exact Nat.mul_le_mul_right _ h1
  · have e : 2 ^ (n.log2 + k + 1) = 2 ^ (n.log2 + 1) * 2 ^ k := by rw [← Nat.pow_add]; congr 1; omega
    rw [e]; exact Nat.mul_lt_mul_of_pos_right h2 (Nat.two_pow_pos k)

/-- at the place '-1074 + c': n * 2^k, of n below 2^53, and not too great -/
theorem nearest_exact (s : Bool) (n k c : Nat) (h0 : n ≠ 0) (hn : n < 2 ^ 53) (hc : k + c ≤ 2000) :
    ∃ r, double.nearest s (n * 2 ^ k) ((-1074 : Int) + (c : Int)) = double.word s r ∧ r < inf ∧ val r = n * 2 ^ (k + c) := by
  have hl : n.log2 ≤ 52 := by
    have : n.log2 < 53 := (Nat.log2_lt h0).2 hn
    omega
  have hl1 : 2 ^ n.log2 ≤ n := Nat.log2_self_le h0
  have hl2 : n < 2 ^ (n.log2 + 1) := Nat.lt_log2_self
  have hm : n * 2 ^ k ≠ 0 := Nat.mul_ne_zero h0 (Nat.ne_of_gt (Nat.two_pow_pos k))
  unfold Format.nearest
  rw [if_neg hm]
  simp only [log2_mul_pow h0, bin, infr, least]
  -- the last place, above the least one
  obtain ⟨t, ht, ht2⟩ : ∃ t : Nat, max ((-1074 : Int) + (c : Int) + ((n.log2 + k : Nat) : Int) - (double.fractionBits : Int)) (-1074) = (-1074 : Int) + (t : Int) ∧ t = c + n.log2 + k - 52 := by
    refine ⟨c + n.log2 + k - 52, ?_, rfl⟩
    show max ((-1074 : Int) + (c : Int) + ((n.log2 + k : Nat) : Int) - 52) (-1074) = _
    omega
  rw [ht]
  have e1 : ((-1074 : Int) + (c : Int) - ((-1074 : Int) + (t : Int))).toNat = c - t := by omega
  have e2 : ((-1074 : Int) + (t : Int) - ((-1074 : Int) + (c : Int))).toNat = t - c := by omega
  have e3 : ((-1074 : Int) + (t : Int) - (-1074)).toNat = t := by omega
  rw [e1, e2, e3, Nat.shiftLeft_eq]
  -- what is kept
  have hk : ∃ K, Toward.even.cut s (n * 2 ^ k * 2 ^ (c - t)) (t - c) = K ∧ K * 2 ^ t = n * 2 ^ (k + c) := by
    refine ⟨_, rfl, ?_⟩
    by_cases hct : t ≤ c
    · have hz : t - c = 0 := by omega
      rw [hz, cut_exact _ _ 0 (Nat.one_dvd _) (Nat.mul_ne_zero hm (Nat.ne_of_gt (Nat.two_pow_pos _))), Nat.pow_zero, Nat.div_one, Nat.mul_assoc, Nat.mul_assoc, ← Nat.pow_add, ← Nat.pow_add]
      congr 2; omega
    · have hz : c - t = 0 := by omega
      have hdk : t - c ≤ k := by omega
      have hd : n * 2 ^ k = n * 2 ^ (k - (t - c)) * 2 ^ (t - c) := by rw [Nat.mul_assoc, ← Nat.pow_add]; congr 2; omega
      rw [hz, Nat.pow_zero, Nat.mul_one, cut_exact _ _ _ (by rw [hd]; exact Nat.dvd_mul_left _ _) hm, hd, Nat.mul_div_cancel _ (Nat.two_pow_pos _), Nat.mul_assoc, ← Nat.pow_add]
      congr 2; omega
  obtain ⟨K, hK, hv⟩ := hk
  rw [hK]
  have b2 : K < 2 ^ 53 := by
    have : K * 2 ^ t < 2 ^ 53 * 2 ^ t := by
      rw [hv]
      calc n * 2 ^ (k + c) < 2 ^ (n.log2 + 1) * 2 ^ (k + c) := Nat.mul_lt_mul_of_pos_right hl2 (Nat.two_pow_pos _)
        _ = 2 ^ (n.log2 + 1 + (k + c)) := by rw [← Nat.pow_add]
        _ ≤ 2 ^ (53 + t) := Nat.pow_le_pow_right (by decide) (by omega)
        _ = 2 ^ 53 * 2 ^ t := by rw [Nat.pow_add]
    exact Nat.lt_of_mul_lt_mul_right this
  have b1 : t = 0 ∨ 2 ^ 52 ≤ K := by
    by_cases h : t = 0
    · exact .inl h
    · right
      have : 2 ^ 52 * 2 ^ t ≤ K * 2 ^ t := by
        rw [hv]
        calc 2 ^ 52 * 2 ^ t = 2 ^ (n.log2 + (k + c)) := by rw [← Nat.pow_add]; congr 1; omega
          _ = 2 ^ n.log2 * 2 ^ (k + c) := by rw [Nat.pow_add]
          _ ≤ n * 2 ^ (k + c) := Nat.mul_le_mul_right _ hl1
      exact Nat.le_of_mul_le_mul_right this (Nat.two_pow_pos t)
  have hr : t * 2 ^ 52 + K < inf := by unfold inf; omega
  refine ⟨t * 2 ^ 52 + K, by rw [Nat.min_eq_left (Nat.le_of_lt hr)], hr, ?_⟩
  rw [← hv]
  unfold val
  by_cases hs : t * 2 ^ 52 + K < 2 ^ 52
  · have : t = 0 := by omega
    subst this
    rw [if_pos hs]; omega
  · rw [if_neg hs]
    rcases b1 with h | h
    · subst h
      have d1 : (0 * 2 ^ 52 + K) / 2 ^ 52 - 1 = 0 := by omega
      have d2 : 2 ^ 52 + (0 * 2 ^ 52 + K) % 2 ^ 52 = K := by omega
      rw [d1, d2]
    · have d1 : (t * 2 ^ 52 + K) / 2 ^ 52 - 1 = t := by omega
      have d2 : 2 ^ 52 + (t * 2 ^ 52 + K) % 2 ^ 52 = K := by omega
      rw [d1, d2]

end Go.Proofs.Ythcecfenjbdgmaa.D
