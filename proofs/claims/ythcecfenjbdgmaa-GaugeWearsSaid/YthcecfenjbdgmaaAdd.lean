/-
  Words that are not below nought: their order, their sums, and twice as much. Plain mathematics.
-/
import Derived.Test.YthcecfenjbdgmaaRMean2
namespace Go.Proofs.Ythcecfenjbdgmaa.D
set_option maxRecDepth 100000
open Ieee

theorem val_rn {m c : Nat} (h : m < 2 ^ 53) (hc : c ≤ 1500) : val (rn m c) = m * 2 ^ c := by
  by_cases h0 : m = 0
  · subst h0; rw [rn_zero, val_zero, Nat.zero_mul]
  · obtain ⟨r, h1, _, h3⟩ := nearest_exact false m 0 c h0 h (by omega)
    rw [Nat.pow_zero, Nat.mul_one, nearest_rn, word_false, word_false, Nat.zero_add] at *
    rw [h1]; exact h3

theorem add_small {x y : Nat} (hx : x < inf) (hy : y < inf) : ∃ r, double.add x y = some r ∧ r ≤ inf ∧ (∀ s, s ≤ inf → val s ≤ val x + val y → s ≤ r) ∧ (∀ s, val x + val y ≤ val s → r ≤ s) := by
  have x63 : x < 2 ^ 63 := by unfold inf at hx; omega
  have y63 : y < 2 ^ 63 := by unfold inf at hy; omega
  have rx := rung_small x63
  have ry := rung_small y63
  rcases read_cases x with ⟨_, m, p, ex, vx⟩ | ⟨g, _⟩ | ⟨g, _⟩
  · rcases read_cases y with ⟨_, n, q, ey, vy⟩ | ⟨g, _⟩ | ⟨g, _⟩
    · rw [sgn_small x63] at ex
      rw [sgn_small y63] at ey
      rw [rx] at vx
      rw [ry] at vy
      have eb : min ((-1074 : Int) + (p : Int)) (-1074 + (q : Int)) = (-1074 : Int) + ((min p q : Nat) : Int) := by omega
      have e1 : ((-1074 : Int) + (p : Int) - ((-1074 : Int) + ((min p q : Nat) : Int))).toNat = p - min p q := by omega
      have e2 : ((-1074 : Int) + (q : Int) - ((-1074 : Int) + ((min p q : Nat) : Int))).toNat = q - min p q := by omega
      obtain ⟨T, hT⟩ : ∃ T, T = m * 2 ^ (p - min p q) + n * 2 ^ (q - min p q) := ⟨_, rfl⟩
      have et : signed false m (p - min p q) + signed false n (q - min p q) = (T : Int) := by
        unfold signed
        simp only [Bool.false_eq_true, if_false, Nat.shiftLeft_eq]
        rw [hT]; push_cast; rfl
      have ev : T * 2 ^ min p q = val x + val y := by
        rw [hT, Nat.add_mul, Nat.mul_assoc, Nat.mul_assoc, ← Nat.pow_add, ← Nat.pow_add, ← vx, ← vy]
        congr 3 <;> omega
      have hr : double.add x y = some (rn T (min p q)) := by
        unfold Format.add
        rw [ex, ey]
        simp only [Datum.sum, eb, e1, e2, et, Option.map_some, Format.write, Int.natAbs_natCast, Bool.and_self]
        have : (if (T : Int) = 0 then false else decide ((T : Int) < 0)) = false := by
          split
          · rfl
          · exact decide_eq_false (by omega)
        rw [this, nearest_rn, word_false]
      refine ⟨_, hr, rn_inf _ _, fun s hs h => rn_ge hs (by rw [ev]; exact h), fun s h => rn_le (by rw [ev]; exact h)⟩
    · omega
    · omega
  · omega
  · omega

/-- order, of words that are not below nought -/
theorem ord_lt {x y : Nat} (hx : x ≤ inf) (hy : y ≤ inf) : (FloatKind.f64.format.order x y == some .lt) = decide (x < y) := by
  rw [lss_key, nan_small hx, nan_small hy, key_small (lt63 hx), key_small (lt63 hy)]; simp
theorem ord_gt {x y : Nat} (hx : x ≤ inf) (hy : y ≤ inf) : (FloatKind.f64.format.order x y == some .gt) = decide (y < x) := by
  rw [gtr_key, nan_small hx, nan_small hy, key_small (lt63 hx), key_small (lt63 hy)]; simp
theorem ord_eq {x y : Nat} (hx : x ≤ inf) (hy : y ≤ inf) : (FloatKind.f64.format.order x y == some .eq) = decide (x = y) := by
  rw [eql_key, nan_small hx, nan_small hy, key_small (lt63 hx), key_small (lt63 hy)]; simp; omega
theorem ord_le {x y : Nat} (hx : x ≤ inf) (hy : y ≤ inf) : (FloatKind.f64.format.order x y == some .lt || FloatKind.f64.format.order x y == some .eq) = decide (x ≤ y) := by
  rw [ord_lt hx hy, ord_eq hx hy, Bool.eq_iff_iff]; simp; omega
theorem ord_ge {x y : Nat} (hx : x ≤ inf) (hy : y ≤ inf) : (FloatKind.f64.format.order x y == some .gt || FloatKind.f64.format.order x y == some .eq) = decide (y ≤ x) := by
  rw [ord_gt hx hy, ord_eq hx hy, Bool.eq_iff_iff]; simp; omega

end Go.Proofs.Ythcecfenjbdgmaa.D
