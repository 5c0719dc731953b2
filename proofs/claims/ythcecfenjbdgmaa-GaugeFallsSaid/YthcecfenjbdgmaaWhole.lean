/-
  Contracts of Whole of package edge, and of the reference's Div, Whole and Clamp.
-/
import Derived.Test.YthcecfenjbdgmaaDiv
namespace Go.Proofs.Ythcecfenjbdgmaa
set_option maxRecDepth 100000
open D

def nearB (x : Nat) : Bool := !nan x && decide (rung x ≤ top53)
def wholeB (x : Nat) : Bool := nearB x && (FloatKind.f64.format.order x (truncW x) == some .eq)
def wholeI (x : Nat) : Int := if sgn x then -(flr x : Int) else flr x
def wholeV (x : Nat) : Int := if wholeB x then wholeI x else 0

theorem ret_whole {a c : Int} {b d : Bool} (h : a = c) (g : b = d) : Ending.returned (.tuple #[.int .i64 a, .bool b]) = .returned (.tuple #[.int .i64 c, .bool d]) := by rw [h, g]

def lo53 : Nat := 14069245235905429504
def hi53 : Nat := 4845873199050653696
theorem lo_nan : nan lo53 = false := by decide
theorem hi_nan : nan hi53 = false := by decide
theorem lo_key : key lo53 = -(top53 : Int) := by decide
theorem hi_key : key hi53 = (top53 : Int) := by decide

theorem near_parts (x : Nat) : nearB x = (!nan x && decide (-(top53 : Int) ≤ key x) && decide (key x ≤ (top53 : Int))) := by
  unfold nearB key
  cases nan x <;> simp
  rw [Bool.eq_iff_iff]
  cases sgn x <;> simp <;> omega
theorem leq_lo (x : Nat) : (FloatKind.f64.format.order lo53 x == some .lt || FloatKind.f64.format.order lo53 x == some .eq) = (!nan x && decide (-(top53 : Int) ≤ key x)) := by
  rw [leq_key, lo_nan, lo_key]; simp
theorem leq_hi (x : Nat) : (FloatKind.f64.format.order x hi53 == some .lt || FloatKind.f64.format.order x hi53 == some .eq) = (!nan x && decide (key x ≤ (top53 : Int))) := by
  rw [leq_key, hi_nan, hi_key]; simp

theorem toInt_run (x : Nat) (w : World) (h : nearB x = true) : (convert 25 3 (.float .f64 x)).run Try.prog w = .ok (.int .i64 (wholeI x)) w := by
  have hn : rung x ≤ top53 := by unfold nearB at h; simp at h; exact h.2
  have hi : rung x < inf := Nat.lt_of_le_of_lt hn (by decide)
  have hf := flr_le hn
  refine run_convert_float_int w _ _ .f64 .i64 x _ (by kernel_rfl) (by kernel_rfl) ?_
  have e : (FloatKind.f64.decode x).toInt .zero = some (wholeI x) := by
    show (Ieee.double.read x).toInt .zero = _
    rw [toInt_of hi, signed_zero]; rfl
  unfold floatToIntVal
  rw [e]
  have hb : IntKind.i64.min ≤ wholeI x ∧ wholeI x ≤ IntKind.i64.max := by
    have h1 : IntKind.i64.min = -9223372036854775808 := by decide
    have h2 : IntKind.i64.max = 9223372036854775807 := by decide
    rw [h1, h2]; unfold wholeI; split <;> omega
  simp only [hb, and_self, if_true]

theorem near_nan {x : Nat} (h : nearB x = true) : nan x = false := by unfold nearB at h; simp at h; exact h.1

end Go.Proofs.Ythcecfenjbdgmaa
