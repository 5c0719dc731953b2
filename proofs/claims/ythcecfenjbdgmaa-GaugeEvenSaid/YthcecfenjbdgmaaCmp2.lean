/-
  The reference's rank and Cmp, and package math's Inf and NaN, each as a contract over the order of words.
-/
import Derived.Test.YthcecfenjbdgmaaCmp
namespace Go.Proofs.Ythcecfenjbdgmaa
set_option maxRecDepth 100000
open D

theorem ret_f64 {a b : Nat} (h : a = b) : Ending.returned (.float .f64 a) = .returned (.float .f64 b) := by rw [h]

theorem and_low63 (b : Nat) (hb : b < 2 ^ 64) : bits .and .u64 (b : Int) 9223372036854775807 = (rung b : Int) := by
  rw [u64_and _ _ (by omega) (by omega) (by omega) (by omega)]
  congr 1
  show b &&& 2 ^ 63 - 1 = _
  rw [Nat.and_two_pow_sub_one_eq_mod]; rfl

theorem rk_neg (b : Nat) (hb : b < 2 ^ 64) (hn : nan b = false) (h : ((b : Int) / 9223372036854775808 == 1) = true) : RowKit.wrap64 (-1 - RowKit.wrap64 (bits .and .u64 (b : Int) 9223372036854775807)) = rk b := by
  have h' : (b : Int) / 9223372036854775808 = 1 := by simpa using h
  rw [and_low63 b hb]
  have hs : sgn b = true := by unfold sgn; simp; omega
  have := rung_lt b
  unfold rk RowKit.wrap64
  rw [hn, hs]
  simp
  omega
theorem rk_pos (b : Nat) (hb : b < 2 ^ 64) (hn : nan b = false) (h : ((b : Int) / 9223372036854775808 == 1) = false) : RowKit.wrap64 (b : Int) = rk b := by
  have h' : ¬ (b : Int) / 9223372036854775808 = 1 := by simpa using h
  have hs : sgn b = false := by unfold sgn; simp; omega
  have hr : rung b = b := by unfold rung; omega
  unfold rk RowKit.wrap64
  rw [hn, hs, hr]
  simp
  omega
theorem rk_nan (b : Nat) (hn : nan b = true) : 9223372036854775807 = rk b := by unfold rk; rw [hn]; rfl

set_option maxHeartbeats 400000 in
theorem rank_any (b : Nat) (w : World) (hb : b < 2 ^ 64) : Calls Try.prog 52 #[.float .f64 b] w fun e w' => e = .returned (.int .i64 (rk b)) ∧ w = w' := by
  have B := Lib.hid hb; clear hb
  have e1 : (FloatKind.f64.format.order b b != some .eq) = nan b := ne_self b
  cases h1 : nan b
  case true =>
    have N := Lib.hid h1
    rw [h1] at e1; clear h1
    go_enter Try.func52, Try.ntmps52
    go_wp2
    go_ret
    exact ⟨ret_i64 (rk_nan b N.out), rfl⟩
  case false =>
    have N := Lib.hid h1
    rw [h1] at e1; clear h1
    go_enter Try.func52, Try.ntmps52
    go_wp2
    · go_ret
      exact ⟨ret_i64 (rk_neg b B.out N.out (by assumption)), rfl⟩
    · go_ret
      exact ⟨ret_i64 (rk_pos b B.out N.out (by assumption)), rfl⟩

set_option maxHeartbeats 400000 in
theorem rcmp_any (a b : Nat) (w : World) (ha : a < 2 ^ 64) (hb : b < 2 ^ 64) : Calls Try.prog 45 #[.float .f64 a, .float .f64 b] w fun e w' => e = .returned (.int .i64 (cmp3 (rk a) (rk b))) ∧ w = w' := by
  have g1 := Lib.hid (rank_any a · ha)
  have g2 := Lib.hid (rank_any b · hb)
  clear ha hb
  by_cases h1 : rk a < rk b
  · have E := Lib.hid (show cmp3 (rk a) (rk b) = -1 by unfold cmp3; rw [if_pos h1])
    go_enter Try.func45, Try.ntmps45
    go_wp2_with fail
    refine (g1.out _).mono ?_; rintro e w' ⟨rfl, rfl⟩
    go_wp2_with fail
    refine (g2.out _).mono ?_; rintro e w' ⟨rfl, rfl⟩
    go_wp2_with fail
    go_ret
    exact ⟨ret_i64 E.out.symm, rfl⟩
  · by_cases h2 : rk b < rk a
    · have E := Lib.hid (show cmp3 (rk a) (rk b) = 1 by unfold cmp3; rw [if_neg h1, if_pos h2])
      go_enter Try.func45, Try.ntmps45
      go_wp2_with fail
      refine (g1.out _).mono ?_; rintro e w' ⟨rfl, rfl⟩
      go_wp2_with fail
      refine (g2.out _).mono ?_; rintro e w' ⟨rfl, rfl⟩
      go_wp2_with fail
      go_ret
      exact ⟨ret_i64 E.out.symm, rfl⟩
    · have E := Lib.hid (show cmp3 (rk a) (rk b) = 0 by unfold cmp3; rw [if_neg h1, if_neg h2])
      go_enter Try.func45, Try.ntmps45
      go_wp2_with fail
      refine (g1.out _).mono ?_; rintro e w' ⟨rfl, rfl⟩
      go_wp2_with fail
      refine (g2.out _).mono ?_; rintro e w' ⟨rfl, rfl⟩
      go_wp2_with fail
      go_ret
      exact ⟨ret_i64 E.out.symm, rfl⟩

theorem nan_any (w : World) : Calls Try.prog 29 #[] w fun e w' => e = .returned (.float .f64 9221120237041090561) ∧ w = w' := by
  go_enter Try.func29, Try.ntmps29
  go_wp2
  go_ret
  exact ⟨rfl, rfl⟩

theorem inf_any (n : Int) (w : World) : Calls Try.prog 24 #[.int .i64 n] w fun e w' => e = .returned (.float .f64 (if 0 ≤ n then 9218868437227405312 else 18442240474082181120)) ∧ w = w' := by
  by_cases h : 0 ≤ n
  · go_enter Try.func24, Try.ntmps24
    go_wp2
    go_ret
    exact ⟨rfl, rfl⟩
  · go_enter Try.func24, Try.ntmps24
    go_wp2
    go_ret
    exact ⟨rfl, rfl⟩
end Go.Proofs.Ythcecfenjbdgmaa
