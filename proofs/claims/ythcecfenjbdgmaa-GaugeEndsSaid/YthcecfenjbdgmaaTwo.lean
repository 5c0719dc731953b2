/-
  Min and Max of two, and what both find of a number that is none: contracts.
-/
import Derived.Test.YthcecfenjbdgmaaAwake
namespace Go.Proofs.Ythcecfenjbdgmaa
set_option maxRecDepth 100000
open D Go.RowKit

def min2V (x y : Nat) : Nat := if rk y < rk x then y else x
def max2V (x y : Nat) : Nat := if rk x < rk y then y else x

theorem words2 {x y b : Nat} {w : World} (h0 : w.cell? ⟨b, 0, none⟩ = some (.float .f64 x)) (h1 : w.cell? ⟨b, 1, none⟩ = some (.float .f64 y)) : Words w b 0 [x, y] := by
  intro i hi
  have : i = 0 ∨ i = 1 := by simp at hi; omega
  rcases this with rfl | rfl
  · exact h0
  · exact h1
theorem small2 {x y : Nat} (hx : x < 2 ^ 64) (hy : y < 2 ^ 64) : Small [x, y] := by
  intro i hi
  have : i = 0 ∨ i = 1 := by simp at hi; omega
  rcases this with rfl | rfl
  · exact hx
  · exact hy
theorem min2_any (x y b cap : Nat) (w : World) (hx : x < 2 ^ 64) (hy : y < 2 ^ 64) (h0 : w.cell? ⟨b, 0, none⟩ = some (.float .f64 x)) (h1 : w.cell? ⟨b, 1, none⟩ = some (.float .f64 y)) :
    Calls Try.prog 28 #[.slice (some ⟨b, 0, none⟩) 2 cap] w fun e w' => e = .returned (.float .f64 (min2V x y)) ∧ w = w' :=
  min_any [x, y] b 0 cap w (show 2 ≤ maxLen by decide) (words2 h0 h1) (small2 hx hy)

theorem min2_lt {x y : Nat} (hx : x < 2 ^ 64) (hy : y < 2 ^ 64) : min2V x y < 2 ^ 64 := by unfold min2V; split <;> assumption
theorem max2_lt {x y : Nat} (hx : x < 2 ^ 64) (hy : y < 2 ^ 64) : max2V x y < 2 ^ 64 := by unfold max2V; split <;> assumption

theorem same_is (a b : Nat) (ha : a < 2 ^ 64) (hb : b < 2 ^ 64) (c : Bool) (h : decide (rk a = rk b) = c) (w : World) : Calls Try.prog 10 #[.float .f64 a, .float .f64 b] w fun e w' => e = .returned (.bool c) ∧ w = w' := by
  refine (same_any a b w ha hb).mono fun e w' ⟨g, k⟩ => ⟨?_, k⟩
  rw [g, ← h]
  refine ret_bool ?_
  unfold cmp3; rw [Bool.eq_iff_iff]; simp only [beq_iff_eq, decide_eq_true_eq]; split
  · simp; omega
  · split <;> simp <;> omega
theorem cmp_is' (a b : Nat) (ha : a < 2 ^ 64) (hb : b < 2 ^ 64) (c : Int) (h : cmp3 (rk a) (rk b) = c) (w : World) : Calls Try.prog 22 #[.float .f64 a, .float .f64 b] w fun e w' => e = .returned (.int .i64 c) ∧ w = w' := by
  rw [← h]; exact cmp_any a b w ha hb
/-- a block more, then what a later call laid -/
theorem below_one {w w1 w2 : World} {o : Obj} {B : Nat} (h : Below w.heap.size w w1) (hB : w1.heap.size ≤ B) (h2 : Below B (w1.alloc o) w2) : Below w.heap.size w w2 :=
  (h.alloc h.size o).trans (h2.mono (Nat.le_trans h.size hB))
theorem below_two {w w1 w2 : World} {o1 o2 : Obj} {B : Nat} (h : Below w.heap.size w w1) (hB : w1.heap.size ≤ B) (h2 : Below B ((w1.alloc o1).alloc o2) w2) : Below w.heap.size w w2 :=
  ((h.alloc h.size o1).alloc (by rw [size_alloc]; exact Nat.le_succ_of_le h.size) o2).trans (h2.mono (Nat.le_trans h.size hB))
end Go.Proofs.Ythcecfenjbdgmaa
