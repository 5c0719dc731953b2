/-
  Contracts of the reference's held, Mean, Variance, Ratio and Uneven: each tells what package mean tells.
-/
import Derived.Test.YthcecfenjbdgmaaMean2
namespace Go.Proofs.Ythcecfenjbdgmaa
set_option maxRecDepth 100000
open D Go.RowKit

theorem rheld_any (n : Int) (w : World) : Calls Try.prog 37 #[.int .i64 n] w fun e w' => e = .returned (.int .i64 ((hn n : Nat) : Int)) ∧ w = w' := by
  have E := Lib.hid (hn_cast' n)
  go_enter Try.func37, Try.ntmps37
  go_wp2
  all_goals
    go_ret
    exact ⟨ret_i64 (by have := E.out; omega), rfl⟩

theorem quo_is {a b q : Nat} (h : Ieee.double.div a b = some q) (w : World) : (binOp .quo 25 (.float .f64 a) (.float .f64 b)).run Try.prog w = .ok (.float .f64 q) w :=
  run_float_arith w .quo _ .f64 a b q h

theorem rmean_none (p : Option Addr) (n cap : Nat) (w : World) (h : n = 0 ∨ 200 < n) : Calls Try.prog 38 #[.slice p n cap] w fun e w' => e = .returned (.float .f64 nanW) ∧ w = w' := by
  rcases h with rfl | h
  · go_enter Try.func38, Try.ntmps38
    go_wp2_with fail
    refine (nan_any _).mono ?_; rintro e w' ⟨rfl, rfl⟩
    go_wp2_with fail
    go_ret
    exact ⟨rfl, rfl⟩
  · go_enter Try.func38, Try.ntmps38
    go_wp2_with fail
    refine (nan_any _).mono ?_; rintro e w' ⟨rfl, rfl⟩
    go_wp2_with fail
    go_ret
    exact ⟨rfl, rfl⟩

set_option maxHeartbeats 400000 in
theorem rmean_some (l : List Int) (b off cap : Nat) (w : World) (h0 : 0 < l.length) (hl : l.length ≤ 200) (hc : ∀ i, i < l.length → w.cell? ⟨b, off + i, none⟩ = some (.int .i64 (l.getD i 0))) :
    Calls Try.prog 38 #[.slice (some ⟨b, off, none⟩) l.length cap] w fun e w' => e = .returned (.float .f64 (ofV (held l))) ∧ w = w' := by
  have C := Lib.hid hc
  have hne : ((l.length : Int) == 0) = false := beq_eq_false_iff_ne.2 (by omega)
  have E := Lib.hid (show ofV (held l) = Q (S (held l)) l.length by unfold ofV; rw [held_length, if_neg (by omega)])
  have hSb := (sums_le l l.length (by omega)).1
  rw [List.take_length] at hSb
  have hq := quo_is (div_Q (a := S (held l)) (b := l.length) (by omega) (by omega) (by omega))
  clear hc
  go_enter Try.func38, Try.ntmps38
  go_wp2
  go_loop [3, 17] (fun s i => ∃ k : Nat, k ≤ l.length ∧ s = .int .i64 ((S (held (l.take k)) : Nat) : Int) ∧ i = .int .i64 k) (fun _ i => l.length - (intOf i).toNat)
  case atStart => exact ⟨0, Nat.zero_le _, rfl, rfl⟩
  case round =>
    obtain ⟨k, hk, rfl, rfl⟩ := hrel
    by_cases hlt : k < l.length
    · have hcell := C.out k hlt
      have ES := Lib.hid (S_take hlt)
      obtain ⟨hs1, _⟩ := sums_le l k (by omega)
      have hx := hn_le (l.getD k 0)
      have G := Lib.hid (rheld_any (l.getD k 0))
      clear hq hSb
      generalize hn (l.getD k 0) = x at *
      generalize l.getD k 0 = y at *
      generalize S (held (l.take k)) = s at *
      go_wp2_with (go_at_call 37; refine (G.out _).mono ?_; rintro e w' ⟨rfl, rfl⟩)
      go_round
      case rel => exact ⟨k + 1, by omega, by rw [ES.out]; go_num, by go_num⟩
      case measure => simp [intOf]; omega
    · obtain rfl : k = l.length := by omega
      rw [List.take_length]
      generalize S (held l) = s at *
      go_wp2
      go_ret
      exact ⟨ret_f64 E.out.symm, rfl⟩


theorem rmean_any (v : Value) (l : List Int) (w : World) (h : RIm w v l) :
    Calls Try.prog 38 #[v] w fun e w' => e = .returned (.float .f64 (ofV (held l))) ∧ w = w' := by
  by_cases hx : l.length = 0 ∨ 200 < l.length
  · obtain ⟨p, cap, rfl⟩ := ri_shape h
    rw [show ofV (held l) = nanW by unfold ofV; rw [held_length, if_pos hx]]
    exact rmean_none p _ cap w hx
  · obtain ⟨p, cap, rfl, rfl | ⟨b, off, rfl, hc⟩⟩ := h
    · exact absurd (.inl rfl) hx
    · exact rmean_some l b off cap w (by omega) (by omega) hc

theorem rrat_any (a b : Int) (w : World) : Calls Try.prog 25 #[.int .i64 a, .int .i64 b] w fun e w' => e = .returned (.float .f64 (ratV (hn a) (hn b))) ∧ w = w' := by
  have G := Lib.hid (rheld_any a)
  have H := Lib.hid (rheld_any b)
  have ha := hn_le a
  have hb := hn_le b
  generalize hn a = x at *
  generalize hn b = y at *
  by_cases hy : y = 0
  · by_cases hx : x = 0
    · have E := Lib.hid (show ratV x y = nanW by unfold ratV; rw [if_pos hy, if_pos hx])
      subst hy; subst hx
      go_enter Try.func25, Try.ntmps25
      go_wp2_with fail
      refine (G.out _).mono ?_; rintro e w' ⟨rfl, rfl⟩
      go_wp2_with fail
      refine (H.out _).mono ?_; rintro e w' ⟨rfl, rfl⟩
      go_wp2_with fail
      refine (nan_any _).mono ?_; rintro e w' ⟨rfl, rfl⟩
      go_wp2_with fail
      go_ret
      exact ⟨ret_f64 E.out.symm, rfl⟩
    · have E := Lib.hid (show ratV x y = infW by unfold ratV; rw [if_pos hy, if_neg hx])
      have hne : ((x : Int) == 0) = false := beq_eq_false_iff_ne.2 (by omega)
      subst hy
      go_enter Try.func25, Try.ntmps25
      go_wp2_with fail
      refine (G.out _).mono ?_; rintro e w' ⟨rfl, rfl⟩
      go_wp2_with fail
      refine (H.out _).mono ?_; rintro e w' ⟨rfl, rfl⟩
      go_wp2_with fail
      refine (inf_any _ _).mono ?_; rintro e w' ⟨rfl, rfl⟩
      go_wp2_with fail
      go_ret
      exact ⟨ret_f64 E.out.symm, rfl⟩
  · have E := Lib.hid (show ratV x y = Q x y by unfold ratV; rw [if_neg hy])
    have hne : ((y : Int) == 0) = false := beq_eq_false_iff_ne.2 (by omega)
    have hq := quo_is (div_Q (a := x) (b := y) (by omega) (by omega) (by omega))
    clear hy
    go_enter Try.func25, Try.ntmps25
    go_wp2_with fail
    refine (G.out _).mono ?_; rintro e w' ⟨rfl, rfl⟩
    go_wp2_with fail
    refine (H.out _).mono ?_; rintro e w' ⟨rfl, rfl⟩
    go_wp2_with fail
    go_ret
    exact ⟨ret_f64 E.out.symm, rfl⟩

theorem self_ne (b : Nat) : (FloatKind.f64.format.order b b != some .eq) = nan b := ne_self b

/-- the loop over, the rest of Uneven: by what Mean told -/
theorem ofV_kinds (m : List Nat) (h : ∀ x ∈ m, x ≤ 1000000) : (ofV m = nanW ∧ unV m = nanW) ∨ (ofV m = 0 ∧ unV m = nanW) ∨ (nan (ofV m) = false ∧ rung (ofV m) ≠ 0 ∧ Ieee.double.div (W (top m)) (ofV m) = some (unV m)) := by
  unfold ofV unV
  by_cases h0 : m.length = 0 ∨ 200 < m.length
  · rw [if_pos h0, if_pos (by omega)]; exact .inl ⟨rfl, rfl⟩
  · rw [if_neg h0]
    by_cases hS : S m = 0
    · rw [if_pos (by omega), hS, Q_zero]; exact .inr (.inl ⟨rfl, rfl⟩)
    · rw [if_neg (by omega)]
      have h4 := of_mid h (by omega) (by omega) (by omega)
      obtain ⟨h2, _⟩ := un_quo h (by omega) (by omega) (by omega)
      refine .inr (.inr ⟨nan_small (Nat.le_of_lt (mid_lt h4)), ?_, h2⟩)
      rw [rung_small (lt63 (Nat.le_of_lt (mid_lt h4)))]
      have := mid_pos h4; omega

theorem nan_nanW : nan nanW = true := by decide
end Go.Proofs.Ythcecfenjbdgmaa
