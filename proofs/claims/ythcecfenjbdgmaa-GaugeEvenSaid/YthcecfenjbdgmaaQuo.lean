/-
  Contracts of package math's Abs and IsInf, and of Div of package edge; what a quotient is, whatever is drawn.
-/
import Derived.Test.YthcecfenjbdgmaaCmp2
import Derived.Test.YthcecfenjbdgmaaFloat
namespace Go.Proofs.Ythcecfenjbdgmaa
set_option maxRecDepth 100000
open D

theorem andNot_high (b : Nat) (hb : b < 2 ^ 64) : bits .andNot .u64 (b : Int) 9223372036854775808 = (rung b : Int) := by
  rw [u64_andNot _ _ (by omega) (by omega) (by omega) (by omega)]
  congr 1
  show b &&& 2 ^ 63 - 1 = _
  rw [Nat.and_two_pow_sub_one_eq_mod]; rfl

theorem leq_key (a b : Nat) : (FloatKind.f64.format.order a b == some .lt || FloatKind.f64.format.order a b == some .eq) = (!nan a && !nan b && decide (key a ≤ key b)) := by
  show (Ieee.double.order a b == some .lt || Ieee.double.order a b == some .eq) = _
  rw [order_key]
  cases nan a <;> cases nan b <;> simp
  rw [Bool.eq_iff_iff]; simp [cmp_lt]; omega
theorem lss_key (a b : Nat) : (FloatKind.f64.format.order a b == some .lt) = (!nan a && !nan b && decide (key a < key b)) := by
  show (Ieee.double.order a b == some .lt) = _
  rw [order_key]
  cases nan a <;> cases nan b <;> simp
  rw [Bool.eq_iff_iff]; simp [cmp_lt]
theorem gtr_key (a b : Nat) : (FloatKind.f64.format.order a b == some .gt) = (!nan a && !nan b && decide (key b < key a)) := by
  show (Ieee.double.order a b == some .gt) = _
  rw [order_key]
  cases nan a <;> cases nan b <;> simp
  rw [Bool.eq_iff_iff]; simp [cmp_gt]
theorem eql_key (a b : Nat) : (FloatKind.f64.format.order a b == some .eq) = (!nan a && !nan b && decide (key a = key b)) := by
  show (Ieee.double.order a b == some .eq) = _
  rw [order_key]
  cases nan a <;> cases nan b <;> simp
  rw [Bool.eq_iff_iff]; simp

theorem abs_any (b : Nat) (w : World) (hb : b < 2 ^ 64) : Calls Try.prog 40 #[.float .f64 b] w fun e w' => e = .returned (.float .f64 (rung b)) ∧ w = w' := by
  have E := Lib.hid (andNot_high b hb); clear hb
  go_enter Try.func40, Try.ntmps40
  go_wp2
  go_ret
  exact ⟨ret_f64 (by have := E.out; simp_all), rfl⟩

def infB (b : Nat) : Bool := decide (rung b = inf)

theorem order_rung (b m : Nat) (hm : m < inf) : Ieee.double.order (rung b) m = if nan b then none else some (compare (rung b : Int) (m : Int)) := by
  have hi : inf < 2 ^ 63 := by decide
  rw [order_key]
  have hr := rung_lt b
  have h1 : rung (rung b) = rung b := by unfold rung; omega
  have h2 : nan (rung b) = nan b := by unfold nan; rw [h1]
  have h3 : key (rung b) = rung b := by
    have : sgn (rung b) = false := by unfold sgn; simp; omega
    unfold key; rw [this, h1]; simp
  have g1 : rung m = m := by unfold rung; omega
  have h4 : nan m = false := by unfold nan; rw [g1]; simp; omega
  have h5 : key m = m := by
    have : sgn m = false := by unfold sgn; simp; omega
    unfold key; rw [this, g1]; simp
  rw [h2, h3, h4, h5, Bool.or_false]

theorem gtr_of (b m : Nat) (hm : m + 1 = inf) : (Ieee.double.order (rung b) m == some .gt) = infB b := by
  rw [order_rung b m (by omega)]
  unfold infB nan
  by_cases g : inf < rung b
  · rw [decide_eq_true g]; simp; omega
  · rw [decide_eq_false g, Bool.eq_iff_iff]
    simp only [Bool.false_eq_true, if_false, beq_iff_eq, Option.some.injEq, cmp_gt, decide_eq_true_eq]
    omega

theorem gtr_max (b : Nat) : (FloatKind.f64.format.order (rung b) 9218868437227405311 == some .gt) = infB b := gtr_of b 9218868437227405311 (by decide)

theorem isInf_any (b : Nat) (w : World) (hb : b < 2 ^ 64) : Calls Try.prog 23 #[.float .f64 b, .int .i64 0] w fun e w' => e = .returned (.bool (infB b)) ∧ w = w' := by
  have A := Lib.hid (abs_any b · hb)
  have E := Lib.hid (gtr_max b)
  clear hb
  go_enter Try.func23, Try.ntmps23
  go_wp2_with (go_at_call 40; refine (A.out _).mono ?_; rintro e w' ⟨rfl, rfl⟩)
  go_ret
  exact ⟨ret_bool E.out, rfl⟩

/-- what a by b is: nothing by a nought, nothing where the quotient is an infinity or no number -/
def divR (a b : Nat) : Option Nat := if rung b = 0 then none else match Ieee.double.div a b with
  | none => none
  | some q => if nan q || infB q then none else some q
def divV (a b : Nat) : Nat := (divR a b).getD 0
def divB (a b : Nat) : Bool := (divR a b).isSome

theorem quo_run (P : Program) (a b : Nat) (w : World) : ∃ r w1, (binOp .quo 25 (.float .f64 a) (.float .f64 b)).run P w = .ok (.float .f64 r) w1 ∧ (∃ n, w1 = w.drewN n) ∧ r < 2 ^ 64 ∧
    ((Ieee.double.div a b = some r) ∨ (Ieee.double.div a b = none ∧ nan r = true)) := by
  cases h : Ieee.double.div a b with
  | some q =>
    refine ⟨q, w, run_float_arith w .quo _ .f64 a b q h, ⟨0, rfl⟩, ?_, .inl rfl⟩
    exact Ieee.double.div_lt h
  | none =>
    have e : (binOp .quo 25 (.float .f64 a) (.float .f64 b)).run P w = .ok (.float .f64 ((Question.nanBits .f64 a b).cut (w.tape w.drawn (.nanBits .f64 a b)))) w.drew := by
      have h' : FloatKind.f64.format.div a b = none := h
      simp [binOp, Op.floatArith, h', Question.forced]
    generalize w.tape w.drawn (.nanBits .f64 a b) = t at e
    have c : (Question.nanBits .f64 a b).cut t = (t % 2) * 2 ^ 63 + inf + 1 + (t / 2) % (2 ^ 52 - 1) := rfl
    rw [c] at e
    have hi : inf = 9218868437227405312 := rfl
    refine ⟨_, _, e, ⟨1, rfl⟩, ?_, .inr ⟨rfl, ?_⟩⟩
    · omega
    · have h1 : t % 2 = 0 ∨ t % 2 = 1 := by omega
      have h2 : t / 2 % (2 ^ 52 - 1) < 2 ^ 52 - 1 := Nat.mod_lt _ (by decide)
      generalize t / 2 % (2 ^ 52 - 1) = m at h2
      unfold nan rung
      rw [decide_eq_true_eq]
      rcases h1 with h1 | h1 <;> rw [h1] <;> omega

theorem ret_two {a : Nat} {b : Bool} {c : Nat} {d : Bool} (h : a = c) (g : b = d) : Ending.returned (.tuple #[.float .f64 a, .bool b]) = .returned (.tuple #[.float .f64 c, .bool d]) := by rw [h, g]

theorem div_parts {a b r : Nat} (h : (Ieee.double.div a b = some r) ∨ (Ieee.double.div a b = none ∧ nan r = true)) (hb : ¬ rung b = 0) : divR a b = if nan r || infB r then none else some r := by
  unfold divR
  rw [if_neg hb]
  rcases h with h | ⟨h, g⟩
  · rw [h]
  · rw [h, g]; rfl

theorem zero_eq (b : Nat) : (FloatKind.f64.format.order b 0 == some .eq) = decide (rung b = 0) := by
  cases h : nan b
  · exact eq_zero h
  · have e : (FloatKind.f64.format.order b 0 == some .eq) = false := eq_zero_nan h
    rw [e]
    symm; unfold nan at h; simp at h ⊢; omega

set_option maxHeartbeats 400000 in
theorem div_any (a b : Nat) (w : World) (_ : a < 2 ^ 64) (_ : b < 2 ^ 64) : Calls Try.prog 51 #[.float .f64 a, .float .f64 b] w fun e w' => e = .returned (.tuple #[.float .f64 (divV a b), .bool (divB a b)]) ∧ ∃ n, w' = w.drewN n := by
  obtain ⟨r, w1, hrun, hw, hr, hq⟩ := quo_run Try.prog a b w
  have D := Lib.hid (div_parts hq)
  have W := Lib.hid hw
  have I := Lib.hid (isInf_any r · hr)
  have z := zero_eq b
  clear hw hr hq
  by_cases h0 : rung b = 0
  · rw [decide_eq_true h0] at z
    have E := Lib.hid (show divR a b = none by unfold divR; rw [if_pos h0])
    clear h0
    go_enter Try.func51, Try.ntmps51
    go_wp2
    go_ret2
    exact ⟨ret_two (by unfold divV; rw [E.out]; rfl) (by unfold divB; rw [E.out]; rfl), W.out⟩
  · rw [decide_eq_false h0] at z
    cases h1 : nan r
    case true =>
      have E := Lib.hid (show divR a b = none by rw [D.out h0, h1]; rfl)
      clear h0
      go_enter Try.func51, Try.ntmps51
      go_wp2_with (go_at_call 48; refine (isNaN_raw _ _).mono ?_; rintro e w' ⟨rfl, rfl⟩)
      go_ret2
      exact ⟨ret_two (by unfold divV; rw [E.out]; rfl) (by unfold divB; rw [E.out]; rfl), W.out⟩
    case false =>
    cases h2 : infB r
    case true =>
      have E := Lib.hid (show divR a b = none by rw [D.out h0, h1, h2]; rfl)
      clear h0
      go_enter Try.func51, Try.ntmps51
      go_wp2_with (first | (go_at_call 48; refine (isNaN_raw _ _).mono ?_; rintro e w' ⟨rfl, rfl⟩) | (go_at_call 23; refine (I.out _).mono ?_; rintro e w' ⟨rfl, rfl⟩))
      go_ret2
      exact ⟨ret_two (by unfold divV; rw [E.out]; rfl) (by unfold divB; rw [E.out]; rfl), W.out⟩
    case false =>
      have E := Lib.hid (show divR a b = some r by rw [D.out h0, h1, h2]; rfl)
      clear h0
      go_enter Try.func51, Try.ntmps51
      go_wp2_with (first | (go_at_call 48; refine (isNaN_raw _ _).mono ?_; rintro e w' ⟨rfl, rfl⟩) | (go_at_call 23; refine (I.out _).mono ?_; rintro e w' ⟨rfl, rfl⟩))
      go_ret2
      exact ⟨ret_two (by unfold divV; rw [E.out]; rfl) (by unfold divB; rw [E.out]; rfl), W.out⟩
end Go.Proofs.Ythcecfenjbdgmaa
