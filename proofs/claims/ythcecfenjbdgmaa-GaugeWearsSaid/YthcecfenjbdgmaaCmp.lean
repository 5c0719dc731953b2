/-
  What package math's small functions, package edge's order and the reference's order do, each as a contract: they answer by the order of words (XIeee), and leave the world as it was.
-/
import Derived.Test.YthcecfenjbdgmaaChecked
import Derived.Test.YthcecfenjbdgmaaIeee
import Derived.Test.YthcecfenjbdgmaaLaw
import Derived.WalkKit
import Derived.WalkLawsBesides
import Derived.Deep.QuietTactic
import Derived.BigQuiet
import Derived.Lib.Hide
namespace Go.Proofs.Ythcecfenjbdgmaa
set_option maxRecDepth 100000
open D

@[go_sem] theorem run_bits (b : Nat) (w : World) : (callFunc 50 #[.float .f64 b]).run Try.prog w = .ok (.value (.int .u64 b)) w := by
  rw [run_callFunc_extern (e := Extern.MathFloatBits.float64bits) Try.func50 (by kernel_rfl) (by kernel_rfl) (by kernel_rfl) (by kernel_rfl)]; rfl
@[go_sem] theorem run_frombits (n : Int) (w : World) : (callFunc 41 #[.int .u64 n]).run Try.prog w = .ok (.value (.float .f64 n.toNat)) w := by
  rw [run_callFunc_extern (e := Extern.MathFloatBits.float64frombits) Try.func41 (by kernel_rfl) (by kernel_rfl) (by kernel_rfl) (by kernel_rfl)]; rfl


theorem isNaN_raw (b : Nat) (w : World) : Calls Try.prog 48 #[.float .f64 b] w fun e w' => e = .returned (.bool (nan b)) ∧ w = w' := by
  go_enter Try.func48, Try.ntmps48
  go_wp2
  go_ret
  exact ⟨ret_bool (ne_self b), rfl⟩

theorem wrap_neg (b : Nat) : decide (RowKit.wrap64 (b : Int) < 0) = sgn b := by
  unfold RowKit.wrap64 sgn
  rw [Bool.eq_iff_iff]; simp; omega

theorem signbit_all (b : Nat) (w : World) : Calls Try.prog 49 #[.float .f64 b] w fun e w' => e = .returned (.bool (sgn b)) ∧ w = w' := by
  have H := Lib.hid (wrap_neg b)
  go_enter Try.func49, Try.ntmps49
  go_wp2
  go_ret
  exact ⟨ret_bool H.out, rfl⟩

theorem signbit_any (b : Nat) (w : World) (_ : b < 2 ^ 64) : Calls Try.prog 49 #[.float .f64 b] w fun e w' => e = .returned (.bool (sgn b)) ∧ w = w' := signbit_all b w

def aheadB (a b : Nat) : Bool := decide (rk a < rk b)

theorem aheadB_nan1 {a b : Nat} (h : nan a = true) : aheadB a b = false := by
  unfold aheadB; have := rk_le b; have : rk a = 9223372036854775807 := by unfold rk; rw [if_pos h]
  simp; omega
theorem aheadB_nan2 {a b : Nat} (h : nan a = false) (h2 : nan b = true) : aheadB a b = true := by
  unfold aheadB; have := rk_lt h; have : rk b = 9223372036854775807 := by unfold rk; rw [if_pos h2]
  simp; omega

theorem aheadB_lss {a b : Nat} (ha : nan a = false) (hb : nan b = false) (hz : ¬ (rung a = 0 ∧ rung b = 0)) : (FloatKind.f64.format.order a b == some .lt) = aheadB a b := lss_rk ha hb hz
theorem aheadB_zero {a b : Nat} (ha : rung a = 0) (hb : rung b = 0) : aheadB a b = (sgn a && !sgn b) := by
  have h1 : nan a = false := by unfold nan; rw [ha]; rfl
  have h2 : nan b = false := by unfold nan; rw [hb]; rfl
  unfold aheadB rk
  rw [h1, h2, ha, hb]
  cases sgn a <;> cases sgn b <;> rfl

set_option maxHeartbeats 400000 in
theorem ahead_all (a b : Nat) (w : World) : Calls Try.prog 39 #[.float .f64 a, .float .f64 b] w fun e w' => e = .returned (.bool (aheadB a b)) ∧ w = w' := by
  cases hn : nan a
  case true =>
    have E := Lib.hid (aheadB_nan1 (b := b) hn)
    go_enter Try.func39, Try.ntmps39
    go_wp2_with ((go_at_call 48; refine (isNaN_raw _ _).mono ?_; rintro e w' ⟨rfl, rfl⟩))
    go_ret
    exact ⟨ret_bool E.out.symm, rfl⟩
  case false =>
  cases hm : nan b
  case true =>
    have E := Lib.hid (aheadB_nan2 hn hm)
    go_enter Try.func39, Try.ntmps39
    go_wp2_with ((go_at_call 48; refine (isNaN_raw _ _).mono ?_; rintro e w' ⟨rfl, rfl⟩))
    go_ret
    exact ⟨ret_bool E.out.symm, rfl⟩
  case false =>
  have e1 : (FloatKind.f64.format.order a 0 == some .eq) = decide (rung a = 0) := eq_zero hn
  have e2 : (FloatKind.f64.format.order b 0 == some .eq) = decide (rung b = 0) := eq_zero hm
  by_cases hz : rung a = 0
  · rw [decide_eq_true hz] at e1
    by_cases hy : rung b = 0
    · rw [decide_eq_true hy] at e2
      have E := Lib.hid (aheadB_zero hz hy)
      clear hz hy
      cases hs : sgn a
      case true =>
        go_enter Try.func39, Try.ntmps39
        go_wp2_with (first | (go_at_call 48; refine (isNaN_raw _ _).mono ?_; rintro e w' ⟨rfl, rfl⟩) | (go_at_call 49; refine (signbit_all _ _).mono ?_; rintro e w' ⟨rfl, rfl⟩))
        go_ret
        exact ⟨ret_bool (by rw [E.out, hs]; rfl), rfl⟩
      case false =>
        go_enter Try.func39, Try.ntmps39
        go_wp2_with (first | (go_at_call 48; refine (isNaN_raw _ _).mono ?_; rintro e w' ⟨rfl, rfl⟩) | (go_at_call 49; refine (signbit_all _ _).mono ?_; rintro e w' ⟨rfl, rfl⟩))
        go_ret
        exact ⟨ret_bool (by rw [E.out, hs]; rfl), rfl⟩
    · rw [decide_eq_false hy] at e2
      have E := Lib.hid (aheadB_lss hn hm (by omega))
      clear hz hy
      go_enter Try.func39, Try.ntmps39
      go_wp2_with ((go_at_call 48; refine (isNaN_raw _ _).mono ?_; rintro e w' ⟨rfl, rfl⟩))
      go_ret
      exact ⟨ret_bool E.out, rfl⟩
  · rw [decide_eq_false hz] at e1
    have E := Lib.hid (aheadB_lss hn hm (by omega))
    clear hz e2
    go_enter Try.func39, Try.ntmps39
    go_wp2_with ((go_at_call 48; refine (isNaN_raw _ _).mono ?_; rintro e w' ⟨rfl, rfl⟩))
    go_ret
    exact ⟨ret_bool E.out, rfl⟩


theorem cmp_all (a b : Nat) (w : World) : Calls Try.prog 22 #[.float .f64 a, .float .f64 b] w fun e w' => e = .returned (.int .i64 (cmp3 (rk a) (rk b))) ∧ w = w' := by
  have E : RowKit.Hid (cmp3 (rk a) (rk b) = if aheadB a b then -1 else if aheadB b a then 1 else 0) := Lib.hid (by unfold cmp3 aheadB; simp)
  cases h1 : aheadB a b
  case true =>
    go_enter Try.func22, Try.ntmps22
    go_wp2_with ((go_at_call 39; refine (ahead_all _ _ _).mono ?_; rintro e w' ⟨rfl, rfl⟩))
    go_ret
    exact ⟨ret_i64 (by rw [E.out, h1]; rfl), rfl⟩
  case false =>
  cases h2 : aheadB b a
  all_goals
    go_enter Try.func22, Try.ntmps22
    go_wp2_with fail
    refine (ahead_all _ _ _).mono ?_; rintro e w' ⟨rfl, rfl⟩
    go_wp2_with fail
    refine (ahead_all _ _ _).mono ?_; rintro e w' ⟨rfl, rfl⟩
    go_wp2_with fail
    go_ret
    exact ⟨ret_i64 (by rw [E.out, h1, h2]; rfl), rfl⟩

theorem same_all (a b : Nat) (w : World) : Calls Try.prog 10 #[.float .f64 a, .float .f64 b] w fun e w' => e = .returned (.bool (cmp3 (rk a) (rk b) == 0)) ∧ w = w' := by
  go_enter Try.func10, Try.ntmps10
  go_wp2_with ((go_at_call 22; refine (cmp_all _ _ _).mono ?_; rintro e w' ⟨rfl, rfl⟩))
  go_ret
  exact ⟨rfl, rfl⟩
theorem ahead_any (a b : Nat) (w : World) (_ : a < 2 ^ 64) (_ : b < 2 ^ 64) : Calls Try.prog 39 #[.float .f64 a, .float .f64 b] w fun e w' => e = .returned (.bool (aheadB a b)) ∧ w = w' := ahead_all a b w
theorem cmp_any (a b : Nat) (w : World) (_ : a < 2 ^ 64) (_ : b < 2 ^ 64) : Calls Try.prog 22 #[.float .f64 a, .float .f64 b] w fun e w' => e = .returned (.int .i64 (cmp3 (rk a) (rk b))) ∧ w = w' := cmp_all a b w
theorem same_any (a b : Nat) (w : World) (_ : a < 2 ^ 64) (_ : b < 2 ^ 64) : Calls Try.prog 10 #[.float .f64 a, .float .f64 b] w fun e w' => e = .returned (.bool (cmp3 (rk a) (rk b) == 0)) ∧ w = w' := same_all a b w
end Go.Proofs.Ythcecfenjbdgmaa
