/-
  Contracts of Whole of package edge, and of the reference's Div, Whole and Clamp.
-/
import Derived.Test.YtcccfmclcpldlaaDiv
namespace Go.Proofs.Ytcccfmclcpldlaa
open D

def nearB (x : Nat) : Bool := !nan x && decide (rung x ≤ top53)
def wholeB (x : Nat) : Bool := nearB x && (FloatKind.f64.format.order x (truncW x) == some .eq)
def wholeI (x : Nat) : Int := if sgn x then -(flr x : Int) else flr x
def wholeV (x : Nat) : Int := if wholeB x then wholeI x else 0

theorem ret_whole {a c : Int} {b d : Bool} (h : a = c) (g : b = d) : Ending.returned (.tuple #[.int .i64 a, .bool b]) = .returned (.tuple #[.int .i64 c, .bool d]) := by rw [h, g]

theorem leq_key (a b : Nat) : (FloatKind.f64.format.order a b == some .lt || FloatKind.f64.format.order a b == some .eq) = (!nan a && !nan b && decide (key a ≤ key b)) := by
  show (Ieee.double.order a b == some .lt || Ieee.double.order a b == some .eq) = _
  rw [order_key]
  cases nan a <;> cases nan b <;> simp
  rw [Bool.eq_iff_iff]; simp [cmp_lt]; omega
theorem lss_key (a b : Nat) : (FloatKind.f64.format.order a b == some .lt) = (!nan a && !nan b && decide (key a < key b)) := by
  show (Ieee.double.order a b == some .lt) = _
  rw [order_key]
  cases nan a <;> cases nan b <;> simp
  rw [Bool.eq_iff_iff]; simp [cmp_lt]
theorem gtr_key (a b : Nat) : (FloatKind.f64.format.order a b == some .gt) = (!nan a && !nan b && decide (key b < key a)) := by
  show (Ieee.double.order a b == some .gt) = _
  rw [order_key]
  cases nan a <;> cases nan b <;> simp
  rw [Bool.eq_iff_iff]; simp [cmp_gt]
theorem eql_key (a b : Nat) : (FloatKind.f64.format.order a b == some .eq) = (!nan a && !nan b && decide (key a = key b)) := by
  show (Ieee.double.order a b == some .eq) = _
  rw [order_key]
  cases nan a <;> cases nan b <;> simp
  rw [Bool.eq_iff_iff]; simp

def lo53 : Nat := 14069245235905429504
def hi53 : Nat := 4845873199050653696
theorem lo_nan : nan lo53 = false := by decide
theorem hi_nan : nan hi53 = false := by decide
theorem lo_key : key lo53 = -(top53 : Int) := by decide
theorem hi_key : key hi53 = (top53 : Int) := by decide

theorem near_parts (x : Nat) : nearB x = (!nan x && decide (-(top53 : Int) ≤ key x) && decide (key x ≤ (top53 : Int))) := by
  unfold nearB key
  cases nan x <;> simp
  rw [Bool.eq_iff_iff]
  cases sgn x <;> simp <;> omega
theorem leq_lo (x : Nat) : (FloatKind.f64.format.order lo53 x == some .lt || FloatKind.f64.format.order lo53 x == some .eq) = (!nan x && decide (-(top53 : Int) ≤ key x)) := by
  rw [leq_key, lo_nan, lo_key]; simp
theorem leq_hi (x : Nat) : (FloatKind.f64.format.order x hi53 == some .lt || FloatKind.f64.format.order x hi53 == some .eq) = (!nan x && decide (key x ≤ (top53 : Int))) := by
  rw [leq_key, hi_nan, hi_key]; simp

theorem toInt_run (x : Nat) (w : World) (h : nearB x = true) : (convert 25 3 (.float .f64 x)).run Try.prog w = .ok (.int .i64 (wholeI x)) w := by
  have hn : rung x ≤ top53 := by unfold nearB at h; simp at h; exact h.2
  have hi : rung x < inf := Nat.lt_of_le_of_lt hn (by decide)
  have hf := flr_le hn
  refine run_convert_float_int w _ _ .f64 .i64 x _ (by kernel_rfl) (by kernel_rfl) ?_
  have e : (FloatKind.f64.decode x).toInt .zero = some (wholeI x) := by
    show (Ieee.double.read x).toInt .zero = _
    rw [toInt_of hi, signed_zero]; rfl
  unfold floatToIntVal
  rw [e]
  have hb : IntKind.i64.min ≤ wholeI x ∧ wholeI x ≤ IntKind.i64.max := by
    have h1 : IntKind.i64.min = -9223372036854775808 := by decide
    have h2 : IntKind.i64.max = 9223372036854775807 := by decide
    rw [h1, h2]; unfold wholeI; split <;> omega
  simp only [hb, and_self, if_true]

theorem near_nan {x : Nat} (h : nearB x = true) : nan x = false := by unfold nearB at h; simp at h; exact h.1

set_option maxHeartbeats 400000 in
theorem whole_any (x : Nat) (w : World) : Calls Try.prog 17 #[.float .f64 x] w fun e w' => e = .returned (.tuple #[.int .i64 (wholeV x), .bool (wholeB x)]) ∧ w = w' := by
  have e1 : (FloatKind.f64.format.order 14069245235905429504 x == some .lt || FloatKind.f64.format.order 14069245235905429504 x == some .eq) = _ := leq_lo x
  have e2 : (FloatKind.f64.format.order x 4845873199050653696 == some .lt || FloatKind.f64.format.order x 4845873199050653696 == some .eq) = _ := leq_hi x
  have P := Lib.hid (near_parts x)
  cases h1 : (!nan x && decide (-(top53 : Int) ≤ key x))
  case false =>
    rw [h1] at e1
    have E := Lib.hid (show wholeB x = false by unfold wholeB; rw [P.out, h1]; rfl)
    clear e2 h1
    go_enter Try.func17, Try.ntmps17
    go_wp2
    go_ret2
    exact ⟨ret_whole (by unfold wholeV; rw [E.out]; rfl) E.out.symm, rfl⟩
  case true =>
  rw [h1] at e1
  cases h2 : (!nan x && decide (key x ≤ (top53 : Int)))
  case false =>
    rw [h2] at e2
    have E := Lib.hid (show wholeB x = false by unfold wholeB; rw [P.out]; rw [Bool.and_assoc]; revert h1 h2; cases nan x <;> cases decide (-(top53 : Int) ≤ key x) <;> cases decide (key x ≤ (top53 : Int)) <;> simp)
    clear h1 h2
    go_enter Try.func17, Try.ntmps17
    go_wp2
    go_ret2
    exact ⟨ret_whole (by unfold wholeV; rw [E.out]; rfl) E.out.symm, rfl⟩
  case true =>
    rw [h2] at e2
    have hn : nearB x = true := by rw [P.out]; revert h1 h2; cases nan x <;> cases decide (-(top53 : Int) ≤ key x) <;> cases decide (key x ≤ (top53 : Int)) <;> simp
    have T := Lib.hid (trunc_any x · (near_nan hn))
    have C := fun w => toInt_run x w hn
    have N := Lib.hid hn
    clear h1 h2 hn
    cases h3 : (FloatKind.f64.format.order x (truncW x) == some .eq)
    case false =>
      have E := Lib.hid (show wholeB x = false by unfold wholeB; rw [h3, Bool.and_false])
      have e3 : (FloatKind.f64.format.order x (truncW x) != some .eq) = true := by rw [bne, h3]; rfl
      clear h3
      go_enter Try.func17, Try.ntmps17
      go_wp2_with (go_at_call 37; refine (T.out _).mono ?_; rintro e w' ⟨rfl, rfl⟩)
      go_ret2
      exact ⟨ret_whole (by unfold wholeV; rw [E.out]; rfl) E.out.symm, rfl⟩
    case true =>
      have E := Lib.hid (show wholeB x = true by unfold wholeB; rw [h3, N.out]; rfl)
      have e3 : (FloatKind.f64.format.order x (truncW x) != some .eq) = false := by rw [bne, h3]; rfl
      clear h3
      go_enter Try.func17, Try.ntmps17
      go_wp2_with (go_at_call 37; refine (T.out _).mono ?_; rintro e w' ⟨rfl, rfl⟩)
      go_ret2
      exact ⟨ret_whole (by unfold wholeV; rw [E.out]; rfl) E.out.symm, rfl⟩
end Go.Proofs.Ytcccfmclcpldlaa
