/-
  Contracts of the reference's Clamp, Div and Whole: they answer as package edge does.
-/
import Derived.Test.YtcccfmclcpldlaaRef
namespace Go.Proofs.Ytcccfmclcpldlaa
open D Go.RowKit Go.Proofs

set_option maxHeartbeats 1000000 in
theorem rclamp_any (x lo hi : Nat) (w : World) (hx : x < 2 ^ 64) (hlo : lo < 2 ^ 64) (hhi : hi < 2 ^ 64) : Calls Try.prog 30 #[.float .f64 x, .float .f64 lo, .float .f64 hi] w fun e w' => e = .returned (.float .f64 (clampW x lo hi)) ∧ w = w' := by
  have n1 : (FloatKind.f64.format.order x x != some .eq) = nan x := ne_self x
  have n2 : (FloatKind.f64.format.order lo lo != some .eq) = nan lo := ne_self lo
  have n3 : (FloatKind.f64.format.order hi hi != some .eq) = nan hi := ne_self hi
  have M1 := Lib.hid (rcmp_any hi lo · hhi hlo)
  have M2 := Lib.hid (rcmp_any x lo · hx hlo)
  have M3 := Lib.hid (rcmp_any x hi · hx hhi)
  have b1 : decide (cmp3 (rk hi) (rk lo) < 0) = aheadB hi lo := cmp3_neg _ _
  have b2 : decide (cmp3 (rk x) (rk lo) < 0) = aheadB x lo := cmp3_neg _ _
  have b3 : decide (0 < cmp3 (rk x) (rk hi)) = aheadB hi x := cmp3_pos _ _
  have E := Lib.hid (show clampW x lo hi = if nan x || nan lo || nan hi then lo else if aheadB hi lo then lo else if aheadB x lo then lo else if aheadB hi x then hi else x from rfl)
  clear hx hlo hhi
  cases h1 : nan x
  case true =>
    rw [h1] at n1
    clear n2 n3 b1 b2 b3
    go_enter Try.func30, Try.ntmps30
    go_wp2_with fail
    go_ret
    exact ⟨ret_f64 (by rw [E.out, h1]; rfl), rfl⟩
  case false =>
  rw [h1] at n1
  cases h2 : nan lo
  case true =>
    rw [h2] at n2
    clear n3 b1 b2 b3
    go_enter Try.func30, Try.ntmps30
    go_wp2_with fail
    go_ret
    exact ⟨ret_f64 (by rw [E.out, h1, h2]; rfl), rfl⟩
  case false =>
  rw [h2] at n2
  cases h3 : nan hi
  case true =>
    rw [h3] at n3
    clear b1 b2 b3
    go_enter Try.func30, Try.ntmps30
    go_wp2_with fail
    go_ret
    exact ⟨ret_f64 (by rw [E.out, h1, h2, h3]; rfl), rfl⟩
  case false =>
  rw [h3] at n3
  cases h4 : aheadB hi lo
  case true =>
    rw [h4] at b1
    clear b2 b3
    go_enter Try.func30, Try.ntmps30
    go_wp2_with fail
    refine (M1.out _).mono ?_; rintro e w' ⟨rfl, rfl⟩
    go_wp2_with fail
    go_ret
    exact ⟨ret_f64 (by rw [E.out, h1, h2, h3, h4]; rfl), rfl⟩
  case false =>
  rw [h4] at b1
  cases h5 : aheadB x lo
  case true =>
    rw [h5] at b2
    clear b3
    go_enter Try.func30, Try.ntmps30
    go_wp2_with fail
    refine (M1.out _).mono ?_; rintro e w' ⟨rfl, rfl⟩
    go_wp2_with fail
    refine (M2.out _).mono ?_; rintro e w' ⟨rfl, rfl⟩
    go_wp2_with fail
    go_ret
    exact ⟨ret_f64 (by rw [E.out, h1, h2, h3, h4, h5]; rfl), rfl⟩
  case false =>
  rw [h5] at b2
  cases h6 : aheadB hi x
  all_goals
    rw [h6] at b3
    go_enter Try.func30, Try.ntmps30
    go_wp2_with fail
    refine (M1.out _).mono ?_; rintro e w' ⟨rfl, rfl⟩
    go_wp2_with fail
    refine (M2.out _).mono ?_; rintro e w' ⟨rfl, rfl⟩
    go_wp2_with fail
    refine (M3.out _).mono ?_; rintro e w' ⟨rfl, rfl⟩
    go_wp2_with fail
    go_ret
    exact ⟨ret_f64 (by rw [E.out, h1, h2, h3, h4, h5, h6]; rfl), rfl⟩

set_option maxHeartbeats 1000000 in
theorem rdiv_any (a b : Nat) (w : World) (_ : a < 2 ^ 64) (_ : b < 2 ^ 64) : Calls Try.prog 16 #[.float .f64 a, .float .f64 b] w fun e w' => e = .returned (.tuple #[.float .f64 (divV a b), .bool (divB a b)]) ∧ ∃ n, w' = w.drewN n := by
  obtain ⟨r, w1, hrun, hw, hr, hq⟩ := quo_run Try.prog a b w
  have D := Lib.hid (div_parts hq)
  have W := Lib.hid hw
  have I := Lib.hid (isInf_any r · hr)
  have z := zero_eq b
  have n1 : (FloatKind.f64.format.order r r != some .eq) = nan r := ne_self r
  clear hw hr hq
  by_cases h0 : rung b = 0
  · rw [decide_eq_true h0] at z
    have E := Lib.hid (show divR a b = none by unfold divR; rw [if_pos h0])
    clear h0 hrun n1
    go_enter Try.func16, Try.ntmps16
    go_wp2_with fail
    go_ret2
    exact ⟨ret_two (by unfold divV; rw [E.out]; rfl) (by unfold divB; rw [E.out]; rfl), 0, rfl⟩
  · rw [decide_eq_false h0] at z
    cases h1 : nan r
    case true =>
      rw [h1] at n1
      have E := Lib.hid (show divR a b = none by rw [D.out h0, h1]; rfl)
      clear h0
      go_enter Try.func16, Try.ntmps16
      go_wp2_with fail
      go_ret2
      exact ⟨ret_two (by unfold divV; rw [E.out]; rfl) (by unfold divB; rw [E.out]; rfl), W.out⟩
    case false =>
    rw [h1] at n1
    cases h2 : infB r
    case true =>
      have E := Lib.hid (show divR a b = none by rw [D.out h0, h1, h2]; rfl)
      clear h0
      go_enter Try.func16, Try.ntmps16
      go_wp2_with fail
      refine (I.out _).mono ?_; rintro e w' ⟨rfl, rfl⟩
      go_wp2_with fail
      go_ret2
      exact ⟨ret_two (by unfold divV; rw [E.out]; rfl) (by unfold divB; rw [E.out]; rfl), W.out⟩
    case false =>
      have E := Lib.hid (show divR a b = some r by rw [D.out h0, h1, h2]; rfl)
      clear h0
      go_enter Try.func16, Try.ntmps16
      go_wp2_with fail
      refine (I.out _).mono ?_; rintro e w' ⟨rfl, rfl⟩
      go_wp2_with fail
      go_ret2
      exact ⟨ret_two (by unfold divV; rw [E.out]; rfl) (by unfold divB; rw [E.out]; rfl), W.out⟩

theorem lss_lo (x : Nat) : (FloatKind.f64.format.order x lo53 == some .lt) = (!nan x && decide (key x < -(top53 : Int))) := by
  rw [lss_key, lo_nan, lo_key]; simp
theorem gtr_hi (x : Nat) : (FloatKind.f64.format.order x hi53 == some .gt) = (!nan x && decide ((top53 : Int) < key x)) := by
  rw [gtr_key, hi_nan, hi_key]; simp

set_option maxHeartbeats 1000000 in
theorem rwhole_any (x : Nat) (w : World) : Calls Try.prog 18 #[.float .f64 x] w fun e w' => e = .returned (.tuple #[.int .i64 (wholeV x), .bool (wholeB x)]) ∧ w = w' := by
  have n1 : (FloatKind.f64.format.order x x != some .eq) = nan x := ne_self x
  have e1 : (FloatKind.f64.format.order x 14069245235905429504 == some .lt) = _ := lss_lo x
  have e2 : (FloatKind.f64.format.order x 4845873199050653696 == some .gt) = _ := gtr_hi x
  have P := Lib.hid (near_parts x)
  cases h0 : nan x
  case true =>
    rw [h0] at n1
    have E := Lib.hid (show wholeB x = false by unfold wholeB; rw [P.out, h0]; rfl)
    clear e1 e2
    go_enter Try.func18, Try.ntmps18
    go_wp2_with fail
    go_ret2
    exact ⟨ret_whole (by unfold wholeV; rw [E.out]; rfl) E.out.symm, rfl⟩
  case false =>
  rw [h0] at n1
  rw [h0, Bool.not_false, Bool.true_and] at e1 e2
  by_cases h1 : key x < -(top53 : Int)
  · rw [decide_eq_true h1] at e1
    have E := Lib.hid (show wholeB x = false by unfold wholeB; rw [P.out, decide_eq_false (show ¬ -(top53 : Int) ≤ key x by omega)]; simp)
    clear e2 h1
    go_enter Try.func18, Try.ntmps18
    go_wp2_with fail
    go_ret2
    exact ⟨ret_whole (by unfold wholeV; rw [E.out]; rfl) E.out.symm, rfl⟩
  rw [decide_eq_false h1] at e1
  by_cases h2 : (top53 : Int) < key x
  · rw [decide_eq_true h2] at e2
    have E := Lib.hid (show wholeB x = false by unfold wholeB; rw [P.out, decide_eq_false (show ¬ key x ≤ (top53 : Int) by omega)]; simp)
    clear h1 h2
    go_enter Try.func18, Try.ntmps18
    go_wp2_with fail
    go_ret2
    exact ⟨ret_whole (by unfold wholeV; rw [E.out]; rfl) E.out.symm, rfl⟩
  rw [decide_eq_false h2] at e2
  have hn : nearB x = true := by rw [P.out, h0, decide_eq_true (show -(top53 : Int) ≤ key x by omega), decide_eq_true (show key x ≤ (top53 : Int) by omega)]; rfl
  have T := Lib.hid (trunc_any x · h0)
  have C := fun w => toInt_run x w hn
  have N := Lib.hid hn
  clear h1 h2 hn h0
  cases h3 : (FloatKind.f64.format.order x (truncW x) == some .eq)
  case false =>
    have E := Lib.hid (show wholeB x = false by unfold wholeB; rw [h3, Bool.and_false])
    have e3 : (FloatKind.f64.format.order x (truncW x) != some .eq) = true := by rw [bne, h3]; rfl
    clear h3
    go_enter Try.func18, Try.ntmps18
    go_wp2_with fail
    refine (T.out _).mono ?_; rintro e w' ⟨rfl, rfl⟩
    go_wp2_with fail
    go_ret2
    exact ⟨ret_whole (by unfold wholeV; rw [E.out]; rfl) E.out.symm, rfl⟩
  case true =>
    have E := Lib.hid (show wholeB x = true by unfold wholeB; rw [h3, N.out]; rfl)
    have e3 : (FloatKind.f64.format.order x (truncW x) != some .eq) = false := by rw [bne, h3]; rfl
    clear h3
    go_enter Try.func18, Try.ntmps18
    go_wp2_with fail
    refine (T.out _).mono ?_; rintro e w' ⟨rfl, rfl⟩
    go_wp2_with fail
    go_ret2
    exact ⟨ret_whole (by unfold wholeV; rw [E.out]; rfl) E.out.symm, rfl⟩
end Go.Proofs.Ytcccfmclcpldlaa
